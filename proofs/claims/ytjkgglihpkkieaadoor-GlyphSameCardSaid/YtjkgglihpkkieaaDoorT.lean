/- The reference's Unpack. -/
import Derived.Test.YtjkgglihpkkieaaDoorS
import Derived.RegionTactic
namespace Go.Proofs.YtjkgglihpkkieaaDoor
open Go.RowKit Go.Extern.Stop Go.Stop Go.Extern

/-- What holds at the head of the reading's loop over fields. -/
structure RuInv (w : World) (s : ByteArray) (k p : Nat) (ls : Nat → Int) (sg : Nat → Bool) (wr : World) : Prop where
  below : Below w.heap.size w wr
  res : BlkW wr w.heap.size 23 #[.int .i64 0, .int .i64 0, .int .i64 0, .int .i64 0, .bool false]
  none : BlkW wr (w.heap.size + 1) 23 #[.int .i64 0, .int .i64 0, .int .i64 0, .int .i64 0, .bool false]
  nums : BlkW wr (w.heap.size + 1 + 1) 49 #[.int .i64 (ls 0), .int .i64 (ls 1), .int .i64 (ls 2), .int .i64 (ls 3)]
  signs : BlkW wr (w.heap.size + 1 + 1 + 1) 51 #[.bool (sg 0), .bool (sg 1), .bool (sg 2), .bool (sg 3)]
  later : ∀ i, k ≤ i → sg i = false
  le : p ≤ s.size
  text : ∀ d : Wd, d.Good → txtB d = s → s.data.toList.drop p = tlk d k ∧ ∀ i, i < k → ls i = fld d i
def RuRel (w : World) (s : ByteArray) (va vk : Value) (wr : World) : Prop :=
  ∃ (k p : Nat) (ls : Nat → Int) (sg : Nat → Bool), k ≤ 4 ∧ vk = .int .i64 k ∧ va = .int .i64 p ∧ RuInv w s k p ls sg wr
def RnRel (s : ByteArray) (p0 : Nat) (va vn : Value) : Prop :=
  ∃ (q n : Nat), p0 ≤ q ∧ q ≤ p0 + 14 ∧ q ≤ s.size ∧ va = .int .i64 q ∧ vn = .int .i64 n ∧ n < 10 ^ (q - p0) ∧ scan (14 - (q - p0)) n (s.data.toList.drop q) = scan 14 0 (s.data.toList.drop p0)
/-- A digit more. -/
theorem rn_more {s : ByteArray} {p0 q n : Nat} (h0 : p0 ≤ q) (h14 : q < p0 + 14) (hlt : q < s.size) (hd1 : 48 ≤ s[q].toNat) (hd2 : s[q].toNat ≤ 57) (hn : n < 10 ^ (q - p0))
    (hsc : scan (14 - (q - p0)) n (s.data.toList.drop q) = scan 14 0 (s.data.toList.drop p0)) : n * 10 + (s[q].toNat - 48) < 10 ^ (q + 1 - p0) ∧ scan (14 - (q + 1 - p0)) (n * 10 + (s[q].toNat - 48)) (s.data.toList.drop (q + 1)) = scan 14 0 (s.data.toList.drop p0) := by
  have h1 := pow_step hn (show s[q].toNat - 48 ≤ 9 by omega)
  have h2 := scan_more (14 - (q + 1 - p0)) n s[q] (s.data.toList.drop (q + 1)) hd1 hd2
  rw [← drop_at s q hlt, show 14 - (q + 1 - p0) + 1 = 14 - (q - p0) by omega, hsc] at h2
  rw [show q - p0 + 1 = q + 1 - p0 by omega] at h1
  exact ⟨h1, h2.symm⟩
/-- No digit more. -/
theorem rn_stop {s : ByteArray} {p0 q n : Nat} (h14 : q ≤ p0 + 14) (h0 : p0 ≤ q)
    (hno : ¬ ∃ h : q < s.size, (48 ≤ s[q].toNat ∧ s[q].toNat ≤ 57) ∧ q < p0 + 14)
    (hsc : scan (14 - (q - p0)) n (s.data.toList.drop q) = scan 14 0 (s.data.toList.drop p0)) : scan 14 0 (s.data.toList.drop p0) = (n, s.data.toList.drop q) := by
  rw [← hsc]
  by_cases hlt : q < s.size
  · by_cases h : q < p0 + 14
    · rw [drop_at s q hlt]
      exact scan_stop _ _ _ _ fun hd => hno ⟨hlt, hd, h⟩
    · rw [show 14 - (q - p0) = 0 by omega]; rfl
  · rw [drop_end s q (by omega)]
    exact scan_end _ _
def RuPost (w : World) (s : ByteArray) (e : Ending) (w' : World) : Prop :=
  ∃ (c : Wd) (r : Bool), e = .returned (.tuple #[.agg #[.int .i64 c.slot, .int .i64 c.gen, .int .i64 c.tag, .int .i64 c.num, .bool c.mark], .bool r]) ∧
    ((r = true ∧ c.Good ∧ txtB c = s) ∨ (r = false ∧ c = ⟨0, 0, 0, 0, false⟩ ∧ ∀ d : Wd, d.Good → txtB d ≠ s)) ∧ Below w.heap.size w w'

theorem nums_set {w : World} {B : Nat} {f : Nat → Int} (h : BlkW w B 49 #[.int .i64 (f 0), .int .i64 (f 1), .int .i64 (f 2), .int .i64 (f 3)]) (k : Nat) (hk : k < 4) (v : Int) :
    BlkW (w.setCell ⟨B, k, none⟩ (.int .i64 v)) B 49 #[.int .i64 (if 0 = k then v else f 0), .int .i64 (if 1 = k then v else f 1), .int .i64 (if 2 = k then v else f 2), .int .i64 (if 3 = k then v else f 3)] := by
  have h1 := h.set k (.int .i64 v)
  have : k = 0 ∨ k = 1 ∨ k = 2 ∨ k = 3 := by omega
  rcases this with rfl | rfl | rfl | rfl <;> exact h1
theorem signs_set {w : World} {B : Nat} {f : Nat → Bool} (h : BlkW w B 51 #[.bool (f 0), .bool (f 1), .bool (f 2), .bool (f 3)]) (k : Nat) (hk : k < 4) (v : Bool) :
    BlkW (w.setCell ⟨B, k, none⟩ (.bool v)) B 51 #[.bool (if 0 = k then v else f 0), .bool (if 1 = k then v else f 1), .bool (if 2 = k then v else f 2), .bool (if 3 = k then v else f 3)] := by
  have h1 := h.set k (.bool v)
  have : k = 0 ∨ k = 1 ∨ k = 2 ∨ k = 3 := by omega
  rcases this with rfl | rfl | rfl | rfl <;> exact h1
theorem text_next {s : ByteArray} {k q : Nat} {ls : Nat → Int} {v : Int} {d : Wd} (h : ∀ i, i < k → ls i = fld d i) (hx : v = fld d k ∧ s.data.toList.drop q = tlk d (k + 1)) :
    s.data.toList.drop q = tlk d (k + 1) ∧ ∀ i, i < k + 1 → (if i = k then v else ls i) = fld d i :=
  ⟨hx.2, fun i hi => by
    by_cases e : i = k
    · subst e; rw [if_pos rfl]; exact hx.1
    · rw [if_neg e]; exact h i (by omega)⟩
theorem ru_minus {w wr : World} {s : ByteArray} {k p q : Nat} {ls : Nat → Int} {sg : Nat → Bool} {v : Int} (hI : RuInv w s k p ls sg wr) (hk : k < 4) (hq : q ≤ s.size)
    (hx : ∀ d : Wd, d.Good → txtB d = s → v = fld d k ∧ s.data.toList.drop q = tlk d (k + 1)) :
    RuInv w s (k + 1) q (fun i => if i = k then v else ls i) (fun i => if i = k then true else sg i) ((wr.setCell ⟨w.heap.size + 1 + 1 + 1, k, none⟩ (.bool true)).setCell ⟨w.heap.size + 1 + 1, k, none⟩ (.int .i64 v)) where
  below := below_set (below_set hI.below _ _ _ (by omega)) _ _ _ (by omega)
  res := (hI.res.far (by omega) _).far (by omega) _
  none := (hI.none.far (by omega) _).far (by omega) _
  nums := nums_set (hI.nums.far (by omega) _) k hk v
  signs := (signs_set hI.signs k hk true).far (by omega) _
  later := fun i hi => by rw [if_neg (by omega)]; exact hI.later i (by omega)
  le := hq
  text := fun d hd e => text_next (hI.text d hd e).2 (hx d hd e)
theorem ru_plain {w wr : World} {s : ByteArray} {k p q : Nat} {ls : Nat → Int} {sg : Nat → Bool} {v : Int} (hI : RuInv w s k p ls sg wr) (hk : k < 4) (hq : q ≤ s.size)
    (hx : ∀ d : Wd, d.Good → txtB d = s → v = fld d k ∧ s.data.toList.drop q = tlk d (k + 1)) :
    RuInv w s (k + 1) q (fun i => if i = k then v else ls i) sg (wr.setCell ⟨w.heap.size + 1 + 1, k, none⟩ (.int .i64 v)) where
  below := below_set hI.below _ _ _ (by omega)
  res := hI.res.far (by omega) _
  none := hI.none.far (by omega) _
  nums := nums_set hI.nums k hk v
  signs := hI.signs.far (by omega) _
  later := fun i hi => hI.later i (by omega)
  le := hq
  text := fun d hd e => text_next (hI.text d hd e).2 (hx d hd e)
theorem text_minus {w wr : World} {s : ByteArray} {k p n q : Nat} {ls : Nat → Int} {sg : Nat → Bool} (hI : RuInv w s k p ls sg wr) (hk : k < 4) (hlt : p < s.size) (hlt1 : p + 1 < s.size) (h45 : s[p + 1].toNat = 45)
    (hsc : scan 14 0 (s.data.toList.drop (p + 1 + 1)) = (n, s.data.toList.drop q)) : ∀ d : Wd, d.Good → txtB d = s → -(n : Int) = fld d k ∧ s.data.toList.drop q = tlk d (k + 1) := fun d hd e => by
  have h0 := (hI.text d hd e).1
  rw [tl_step d k hk, drop_at s p hlt] at h0
  have h1 := (List.cons.inj h0).2
  rw [drop_at s (p + 1) hlt1, show s[p + 1] = 45 from UInt8.toNat_inj.1 h45] at h1
  have hb := fld_bd hd k
  exact round_minus hb.1 hb.2 (tl_head d (k + 1)) h1.symm hsc
theorem text_plain {w wr : World} {s : ByteArray} {k p n q : Nat} {ls : Nat → Int} {sg : Nat → Bool} (hI : RuInv w s k p ls sg wr) (hk : k < 4) (hlt : p < s.size) (h45 : ¬ ∃ h : p + 1 < s.size, s[p + 1].toNat = 45)
    (hsc : scan 14 0 (s.data.toList.drop (p + 1)) = (n, s.data.toList.drop q)) : ∀ d : Wd, d.Good → txtB d = s → (n : Int) = fld d k ∧ s.data.toList.drop q = tlk d (k + 1) := fun d hd e => by
  have h0 := (hI.text d hd e).1
  rw [tl_step d k hk, drop_at s p hlt] at h0
  have h1 := (List.cons.inj h0).2
  have hb := fld_bd hd k
  refine round_plain hb.1 hb.2 (tl_head d (k + 1)) h1.symm (fun c t hc e45 => h45 ?_) hsc
  by_cases hlt1 : p + 1 < s.size
  · rw [drop_at s (p + 1) hlt1] at hc
    exact ⟨hlt1, by rw [(List.cons.inj hc).1, e45]; rfl⟩
  · rw [drop_end s (p + 1) (by omega)] at hc; cases hc

set_option maxRecDepth 100000 in
theorem rUnpack_short (s : ByteArray) (hs : s.size < 1) (w : World) : Calls Tryd.prog 12 #[.string s] w (RuPost w s) := by
  have h1 : (s.size : Int) < 1 := by omega
  have HP : Hid (∀ d : Wd, d.Good → txtB d ≠ s) := fun d hd e => by
    have h2 : (txtB d).size = (txt d).length := rfl
    rw [e] at h2
    simp [txt] at h2
    omega
  clear hs
  go_enter Tryd.func12, Tryd.ntmps12
  go_wp2
  refine bodyPost_ret (v := .tuple #[.agg #[.int .i64 0, .int .i64 0, .int .i64 0, .int .i64 0, .bool false], .bool false]) (by simp [results, Tryd.results12, go_sem]) rfl ⟨⟨0, 0, 0, 0, false⟩, false, rfl, .inr ⟨rfl, rfl, HP.out⟩, ?_⟩
  repeat (first | with_reducible exact Below.refl _ _ | with_reducible refine below_alloc ?_ _)
set_option maxRecDepth 100000 in
theorem rUnpack_long (s : ByteArray) (hs : 80 < s.size) (w : World) : Calls Tryd.prog 12 #[.string s] w (RuPost w s) := by
  have h1 : ¬ (s.size : Int) < 1 := by omega
  have h2 : (80 : Int) < s.size := by omega
  have h3 : decide ((s.size : Int) < 1) = false := by simpa using h1
  have HP : Hid (∀ d : Wd, d.Good → txtB d ≠ s) := fun d hd e => by
    have := txt_size hd e
    omega
  clear hs
  go_enter Tryd.func12, Tryd.ntmps12
  go_wp2
  refine bodyPost_ret (v := .tuple #[.agg #[.int .i64 0, .int .i64 0, .int .i64 0, .int .i64 0, .bool false], .bool false]) (by simp [results, Tryd.results12, go_sem]) rfl ⟨⟨0, 0, 0, 0, false⟩, false, rfl, .inr ⟨rfl, rfl, HP.out⟩, ?_⟩
  repeat (first | with_reducible exact Below.refl _ _ | with_reducible refine below_alloc ?_ _)

theorem blk4 (w : World) (c1 c2 c3 c4 : Array Value) (t1 t2 t3 t4 : TypeId) :
    BlkW ((((w.alloc (.cells c1 t1)).alloc (.cells c2 t2)).alloc (.cells c3 t3)).alloc (.cells c4 t4)) w.heap.size t1 c1 ∧ BlkW ((((w.alloc (.cells c1 t1)).alloc (.cells c2 t2)).alloc (.cells c3 t3)).alloc (.cells c4 t4)) (w.heap.size + 1) t2 c2 ∧
    BlkW ((((w.alloc (.cells c1 t1)).alloc (.cells c2 t2)).alloc (.cells c3 t3)).alloc (.cells c4 t4)) (w.heap.size + 1 + 1) t3 c3 ∧ BlkW ((((w.alloc (.cells c1 t1)).alloc (.cells c2 t2)).alloc (.cells c3 t3)).alloc (.cells c4 t4)) (w.heap.size + 1 + 1 + 1) t4 c4 := by
  have h2 := ((BlkW.new (w.alloc (.cells c1 t1)) t2 c2).alloc (.cells c3 t3)).alloc (.cells c4 t4)
  have h3 := (BlkW.new ((w.alloc (.cells c1 t1)).alloc (.cells c2 t2)) t3 c3).alloc (.cells c4 t4)
  have h4 := BlkW.new (((w.alloc (.cells c1 t1)).alloc (.cells c2 t2)).alloc (.cells c3 t3)) t4 c4
  simp only [World.size_alloc] at h2 h3 h4
  exact ⟨(((BlkW.new w t1 c1).alloc _).alloc _).alloc _, h2, h3, h4⟩

set_option maxRecDepth 100000 in
set_option maxHeartbeats 4000000 in
theorem rUnpack_any (s : ByteArray) (hs1 : 1 ≤ s.size) (hs2 : s.size ≤ 80) (w : World) : Calls Tryd.prog 12 #[.string s] w (RuPost w s) := by
  have h1 : (1 : Int) ≤ s.size := by omega
  have h2 : (s.size : Int) ≤ 80 := by omega
  have h3 : decide ((s.size : Int) < 1) = false := by simpa using h1
  have h4 : decide ((80 : Int) < s.size) = false := by simpa using h2
  go_enter Tryd.func12, Tryd.ntmps12
  go_wp2
  go_loopw [7, 8] (RuRel w s) (fun _ k _ => 4 - (intOf k).toNat)
  case atStart =>
    obtain ⟨b1, b2, b3, b4⟩ := blk4 w #[.int .i64 0, .int .i64 0, .int .i64 0, .int .i64 0, .bool false] #[.int .i64 0, .int .i64 0, .int .i64 0, .int .i64 0, .bool false] #[.int .i64 0, .int .i64 0, .int .i64 0, .int .i64 0] #[.bool false, .bool false, .bool false, .bool false] 23 23 49 51
    refine ⟨0, 1, fun _ => 0, fun _ => false, by omega, rfl, rfl, ⟨below_alloc (below_alloc (below_alloc (below_alloc (Below.refl _ _) _) _) _) _, b1, b2, b3, b4, fun _ _ => rfl, hs1, fun d hd e => ⟨?_, fun i hi => absurd hi (Nat.not_lt_zero i)⟩⟩⟩
    rw [← e]
    rfl
  case round =>
    obtain ⟨k, p, ls, sg, hk, rfl, rfl, hI⟩ := hrel
    have hp := hI.le
    have HB := Lib.hid hI.below
    have HI := Lib.hid hI
    have r0 := hI.res.cell 0
    have r1 := hI.res.cell 1
    have r2 := hI.res.cell 2
    have r3 := hI.res.cell 3
    have r4 := hI.res.cell 4
    have o0 := hI.none.cell 0
    have o1 := hI.none.cell 1
    have o2 := hI.none.cell 2
    have o3 := hI.none.cell 3
    have o4 := hI.none.cell 4
    simp only [List.getElem?_toArray, List.getElem?_cons_succ, List.getElem?_cons_zero] at r0 r1 r2 r3 r4 o0 o1 o2 o3 o4
    have f0 := hI.res.frozen 0
    have f1 := hI.res.frozen 1
    have f2 := hI.res.frozen 2
    have f3 := hI.res.frozen 3
    have f4 := hI.res.frozen 4
    by_cases hk4 : k < 4
    · have sgk : wr.cell? ⟨w.heap.size + 1 + 1 + 1, k, none⟩ = some (.bool false) := by
        rw [hI.signs.cell k, get4 (fun i => .bool (sg i)) k hk4, hI.later k (Nat.le_refl _)]
      have sgf : wr.frozen? ⟨w.heap.size + 1 + 1 + 1, k, none⟩ = false := hI.signs.frozen k
      have numk : wr.cell? ⟨w.heap.size + 1 + 1, k, none⟩ = some (.int .i64 (ls k)) := by
        rw [hI.nums.cell k, get4 (fun i => .int .i64 (ls i)) k hk4]
      have numf : wr.frozen? ⟨w.heap.size + 1 + 1, k, none⟩ = false := hI.nums.frozen k
      by_cases hdot : ∃ h : p < s.size, s[p].toNat = 46
      · obtain ⟨hlt, h46⟩ := hdot
        clear hI
        have t1 : decide ((s.size : Int) ≤ (p : Int)) = false := by simpa using hlt
        have t2 : ((s[p].toNat : Int) != 46) = false := by rw [h46]; rfl
        have t2' : ((s[p].toNat : Int) == 46) = true := by rw [h46]; rfl
        by_cases hmin : ∃ h : p + 1 < s.size, s[p + 1].toNat = 45
        · obtain ⟨hlt1, h45⟩ := hmin
          have u1 : ((s[p + 1].toNat : Int) == 45) = true := by rw [h45]; rfl
          have H45 := Lib.hid h45
          clear h45 h46
          go_wp2
          go_loop [7, 9] (RnRel s (p + 1 + 1)) (fun a _ => s.size - (intOf a).toNat)
          case atStart => exact ⟨p + 1 + 1, 0, by omega, by omega, by omega, by go_num, rfl, by simp, by simp⟩
          case round =>
            obtain ⟨q, n, hq1, hq2, hq3, rfl, rfl, hn, hsc⟩ := hrel
            have nb := pow_bd hn (by omega)
            by_cases hgo : ∃ h : q < s.size, (48 ≤ s[q].toNat ∧ s[q].toNat ≤ 57) ∧ q < p + 1 + 1 + 14
            · obtain ⟨hltq, ⟨hd1, hd2⟩, hj14⟩ := hgo
              have nb13 := pow_bd13 hn (by omega)
              have HM := Lib.hid (rn_more hq1 hj14 hltq hd1 hd2 hn hsc)
              clear hn hsc
              go_wp2
              exact ⟨⟨q + 1, n * 10 + (s[q].toNat - 48), by omega, by omega, by omega, by go_num, by congr 1; omega, HM.out.1, HM.out.2⟩, by simp [intOf]; omega⟩
            · have HS := Lib.hid (rn_stop hq2 hq1 hgo hsc)
              clear hn hsc
              by_cases hltq : q < s.size
              · by_cases hd1 : s[q].toNat < 48
                · have t3 : decide ((s[q].toNat : Int) ≥ 48) = false := by simp; omega
                  clear hgo
                  go_wp2
                  refine ⟨⟨k + 1, q, fun i => if i = k then -(n : Int) else ls i, fun i => if i = k then true else sg i, by omega, by go_num, rfl, ru_minus HI.out hk4 hq3 (text_minus HI.out hk4 hlt hlt1 H45.out HS.out)⟩, by simp [intOf]; omega⟩
                · by_cases hd2 : 57 < s[q].toNat
                  · clear hgo
                    go_wp2
                    refine ⟨⟨k + 1, q, fun i => if i = k then -(n : Int) else ls i, fun i => if i = k then true else sg i, by omega, by go_num, rfl, ru_minus HI.out hk4 hq3 (text_minus HI.out hk4 hlt hlt1 H45.out HS.out)⟩, by simp [intOf]; omega⟩
                  · have hj14 : p + 1 + 1 + 14 ≤ q := by
                      rcases Nat.lt_or_ge q (p + 1 + 1 + 14) with h | h
                      · exact absurd ⟨hltq, ⟨by omega, by omega⟩, h⟩ hgo
                      · exact h
                    clear hgo
                    go_wp2
                    refine ⟨⟨k + 1, q, fun i => if i = k then -(n : Int) else ls i, fun i => if i = k then true else sg i, by omega, by go_num, rfl, ru_minus HI.out hk4 hq3 (text_minus HI.out hk4 hlt hlt1 H45.out HS.out)⟩, by simp [intOf]; omega⟩
              · have hltq' : s.size ≤ q := by omega
                clear hgo hltq
                go_wp2
                refine ⟨⟨k + 1, q, fun i => if i = k then -(n : Int) else ls i, fun i => if i = k then true else sg i, by omega, by go_num, rfl, ru_minus HI.out hk4 hq3 (text_minus HI.out hk4 hlt hlt1 H45.out HS.out)⟩, by simp [intOf]; omega⟩
        · have H45 := Lib.hid hmin
          clear h46
          by_cases hlt1 : p + 1 < s.size
          · have u1 : ((s[p + 1].toNat : Int) == 45) = false := by
              have : ¬ s[p + 1].toNat = 45 := fun e => hmin ⟨hlt1, e⟩
              simp; omega
            clear hmin
            go_wp2
            go_loop [7, 9] (RnRel s (p + 1)) (fun a _ => s.size - (intOf a).toNat)
            case atStart => exact ⟨p + 1, 0, by omega, by omega, by omega, by go_num, rfl, by simp, by simp⟩
            case round =>
              obtain ⟨q, n, hq1, hq2, hq3, rfl, rfl, hn, hsc⟩ := hrel
              have nb := pow_bd hn (by omega)
              by_cases hgo : ∃ h : q < s.size, (48 ≤ s[q].toNat ∧ s[q].toNat ≤ 57) ∧ q < p + 1 + 14
              · obtain ⟨hltq, ⟨hd1, hd2⟩, hj14⟩ := hgo
                have nb13 := pow_bd13 hn (by omega)
                have HM := Lib.hid (rn_more hq1 hj14 hltq hd1 hd2 hn hsc)
                clear hn hsc
                go_wp2
                exact ⟨⟨q + 1, n * 10 + (s[q].toNat - 48), by omega, by omega, by omega, by go_num, by congr 1; omega, HM.out.1, HM.out.2⟩, by simp [intOf]; omega⟩
              · have HS := Lib.hid (rn_stop hq2 hq1 hgo hsc)
                clear hn hsc
                by_cases hltq : q < s.size
                · by_cases hd1 : s[q].toNat < 48
                  · have t3 : decide ((s[q].toNat : Int) ≥ 48) = false := by simp; omega
                    clear hgo
                    go_wp2
                    refine ⟨⟨k + 1, q, fun i => if i = k then (n : Int) else ls i, sg, by omega, by go_num, rfl, ru_plain HI.out hk4 hq3 (text_plain HI.out hk4 hlt H45.out HS.out)⟩, by simp [intOf]; omega⟩
                  · by_cases hd2 : 57 < s[q].toNat
                    · clear hgo
                      go_wp2
                      refine ⟨⟨k + 1, q, fun i => if i = k then (n : Int) else ls i, sg, by omega, by go_num, rfl, ru_plain HI.out hk4 hq3 (text_plain HI.out hk4 hlt H45.out HS.out)⟩, by simp [intOf]; omega⟩
                    · have hj14 : p + 1 + 14 ≤ q := by
                        rcases Nat.lt_or_ge q (p + 1 + 14) with h | h
                        · exact absurd ⟨hltq, ⟨by omega, by omega⟩, h⟩ hgo
                        · exact h
                      clear hgo
                      go_wp2
                      refine ⟨⟨k + 1, q, fun i => if i = k then (n : Int) else ls i, sg, by omega, by go_num, rfl, ru_plain HI.out hk4 hq3 (text_plain HI.out hk4 hlt H45.out HS.out)⟩, by simp [intOf]; omega⟩
                · have hltq' : s.size ≤ q := by omega
                  clear hgo hltq
                  go_wp2
                  refine ⟨⟨k + 1, q, fun i => if i = k then (n : Int) else ls i, sg, by omega, by go_num, rfl, ru_plain HI.out hk4 hq3 (text_plain HI.out hk4 hlt H45.out HS.out)⟩, by simp [intOf]; omega⟩
          · have hlt1' : s.size ≤ p + 1 := by omega
            clear hmin hlt1
            go_wp2
            go_loop [7, 9] (RnRel s (p + 1)) (fun a _ => s.size - (intOf a).toNat)
            case atStart => exact ⟨p + 1, 0, by omega, by omega, by omega, by go_num, rfl, by simp, by simp⟩
            case round =>
              obtain ⟨q, n, hq1, hq2, hq3, rfl, rfl, hn, hsc⟩ := hrel
              have nb := pow_bd hn (by omega)
              have HS := Lib.hid (rn_stop hq2 hq1 (fun h => by obtain ⟨h, _⟩ := h; omega) hsc)
              clear hn hsc
              have hltq' : s.size ≤ q := by omega
              go_wp2
              refine ⟨⟨k + 1, q, fun i => if i = k then (n : Int) else ls i, sg, by omega, by go_num, rfl, ru_plain HI.out hk4 hq3 (text_plain HI.out hk4 hlt H45.out HS.out)⟩, by simp [intOf]; omega⟩
      · have HP : Hid (∀ d : Wd, d.Good → txtB d ≠ s) := fun d hd e => by
          have h0 := (hI.text d hd e).1
          rw [tl_step d k hk4] at h0
          by_cases hlt : p < s.size
          · rw [drop_at s p hlt] at h0
            exact hdot ⟨hlt, by rw [(List.cons.inj h0).1]; rfl⟩
          · rw [drop_end s p (by omega)] at h0
            cases h0
        clear hI
        by_cases hlt : p < s.size
        · have h46 : ¬ s[p].toNat = 46 := fun e => hdot ⟨hlt, e⟩
          clear hdot
          have t1 : decide ((s.size : Int) ≤ (p : Int)) = false := by simpa using hlt
          have t2 : ((s[p].toNat : Int) != 46) = true := by simp; omega
          have t2' : ((s[p].toNat : Int) == 46) = false := by simp; omega
          clear h46
          go_wp2
          refine bodyPost_ret (v := .tuple #[.agg #[.int .i64 0, .int .i64 0, .int .i64 0, .int .i64 0, .bool false], .bool false]) (by simp [results, Tryd.results12, go_sem, r0, r1, r2, r3, r4]) rfl ⟨⟨0, 0, 0, 0, false⟩, false, rfl, .inr ⟨rfl, rfl, HP.out⟩, ?_⟩
          have hb := HB.out
          clear HB HI HP
          repeat (first | with_reducible exact hb | with_reducible refine below_set ?_ _ _ _ (Nat.le_refl _))
        · clear hdot
          have t1 : decide ((s.size : Int) ≤ (p : Int)) = true := by simp; omega
          go_wp2
          refine bodyPost_ret (v := .tuple #[.agg #[.int .i64 0, .int .i64 0, .int .i64 0, .int .i64 0, .bool false], .bool false]) (by simp [results, Tryd.results12, go_sem, r0, r1, r2, r3, r4]) rfl ⟨⟨0, 0, 0, 0, false⟩, false, rfl, .inr ⟨rfl, rfl, HP.out⟩, ?_⟩
          have hb := HB.out
          clear HB HI HP
          repeat (first | with_reducible exact hb | with_reducible refine below_set ?_ _ _ _ (Nat.le_refl _))
    · obtain rfl : k = 4 := by omega
      have n0 := hI.nums.cell 0
      have n1 := hI.nums.cell 1
      have n2 := hI.nums.cell 2
      have n3 := hI.nums.cell 3
      simp only [List.getElem?_toArray, List.getElem?_cons_succ, List.getElem?_cons_zero] at n0 n1 n2 n3
      have hlt0 : 0 < s.size := by omega
      have hz0 := hI.res.lt
      have hz2 := hI.nums.lt
      obtain ⟨mk, tmk⟩ : ∃ mk, ((s[0].toNat : Int) == 109) = mk := ⟨_, rfl⟩
      have hD : ∀ d : Wd, d.Good → txtB d = s → Wd.mk (ls 0) (ls 1) (ls 2) (ls 3) mk = d := fun d hd e => by
        have h := (hI.text d hd e).2
        have e0 := h 0 (by omega)
        have e1 := h 1 (by omega)
        have e2 := h 2 (by omega)
        have e3 := h 3 (by omega)
        have em : mk = d.mark := by
          have hs : s.data.toList = txt d := by rw [← e]; rfl
          have h0 := drop_at s 0 hlt0
          rw [List.drop_zero, hs] at h0
          have h1 : (if d.mark then (109 : UInt8) else 110) = s[0] := (List.cons.inj h0).1
          rw [← tmk, ← h1]
          cases d.mark <;> rfl
        rw [e0, e1, e2, e3, em]
        rfl
      have HD := Lib.hid hD
      clear hI hD
      go_wp2
      go_region
      cases hg : goodB (ls 0) (ls 1) (ls 2) (ls 3) with
      | false =>
        have hno : Hid (∀ d : Wd, d.Good → txtB d ≠ s) := fun d hd e => by
          have h1 := HD.out d hd e
          have h2 := goodB_iff (Wd.mk (ls 0) (ls 1) (ls 2) (ls 3) mk)
          rw [hg] at h2
          rw [h1] at h2
          exact absurd hd (of_decide_eq_false h2.symm)
        have PB := Lib.hid (rPack_bad (ls 0) (ls 1) (ls 2) (ls 3) mk hg)
        have k1 : ((⟨#[]⟩ : ByteArray).toList == s.toList) = false := by
          rw [beq_eq_false_iff_ne, ByteArray.toList_eq, ByteArray.toList_eq]
          intro e
          have := congrArg List.length e
          simp at this
          omega
        have k3 : s.toList ≠ [] := fun e => by
          have h1 := congrArg List.length e
          rw [ByteArray.toList_eq] at h1
          have h2 : s.data.toList.length = s.size := rfl
          have h3 : ([] : List UInt8).length = 0 := rfl
          omega
        have k4 : s.toList.isEmpty = false := by simpa using k3
        have k5 : (!s.toList.isEmpty) = true := by rw [k4]; rfl
        have k6 : ([] == s.toList) = false := by rw [beq_eq_false_iff_ne]; exact fun e => k3 e.symm
        have k7 : ([] != s.toList) = true := by rw [bne, k6]; rfl
        have k2 : ((⟨#[]⟩ : ByteArray).toList != s.toList) = true := by rw [bne, k1]; rfl
        clear hg
        go_wp2_with fail
        refine (PB.out _).mono ?_
        rintro e w2 ⟨rfl, hb⟩
        have HB2 := Lib.hid (below_trans (Below.drew (below_alloc HB.out _)) hb)
        have HR2 := Lib.hid (BlkW.below (w := (wr.alloc (.cells #[.int .i64 (ls 0), .int .i64 (ls 1), .int .i64 (ls 2), .int .i64 (ls 3), .bool mk] 23)).drew) (HI.out.res.alloc _) hb)
        have HN2 := Lib.hid (BlkW.below (w := (wr.alloc (.cells #[.int .i64 (ls 0), .int .i64 (ls 1), .int .i64 (ls 2), .int .i64 (ls 3), .bool mk] 23)).drew) (HI.out.none.alloc _) hb)
        have HC2 := Lib.hid (BlkW.below (w := (wr.alloc (.cells #[.int .i64 (ls 0), .int .i64 (ls 1), .int .i64 (ls 2), .int .i64 (ls 3), .bool mk] 23)).drew) (BlkW.new wr 23 _) hb)
        clear hb r0 r1 r2 r3 r4 o0 o1 o2 o3 o4 f0 f1 f2 f3 f4 n0 n1 n2 n3
        have v0 := HR2.out.cell 0
        have v1 := HR2.out.cell 1
        have v2 := HR2.out.cell 2
        have v3 := HR2.out.cell 3
        have v4 := HR2.out.cell 4
        have x0 := HN2.out.cell 0
        have x1 := HN2.out.cell 1
        have x2 := HN2.out.cell 2
        have x3 := HN2.out.cell 3
        have x4 := HN2.out.cell 4
        have y0 := HC2.out.cell 0
        have y1 := HC2.out.cell 1
        have y2 := HC2.out.cell 2
        have y3 := HC2.out.cell 3
        have y4 := HC2.out.cell 4
        simp only [List.getElem?_toArray, List.getElem?_cons_succ, List.getElem?_cons_zero] at v0 v1 v2 v3 v4 x0 x1 x2 x3 x4 y0 y1 y2 y3 y4
        have g0 := HR2.out.frozen 0
        have g1 := HR2.out.frozen 1
        have g2 := HR2.out.frozen 2
        have g3 := HR2.out.frozen 3
        have g4 := HR2.out.frozen 4
        go_wp2
        refine bodyPost_ret (v := .tuple #[.agg #[.int .i64 0, .int .i64 0, .int .i64 0, .int .i64 0, .bool false], .bool false]) (by simp [results, Tryd.results12, go_sem, v0, v1, v2, v3, v4]) rfl ⟨⟨0, 0, 0, 0, false⟩, false, rfl, .inr ⟨rfl, rfl, hno.out⟩, ?_⟩
        have hb := HB2.out
        clear HB HI HB2 HR2 HN2 HC2 HD PB hno
        repeat (first | with_reducible exact hb | with_reducible refine below_set ?_ _ _ _ (Nat.le_refl _))
      | true =>
        have gd : (Wd.mk (ls 0) (ls 1) (ls 2) (ls 3) mk).Good := by
          have h2 := goodB_iff (Wd.mk (ls 0) (ls 1) (ls 2) (ls 3) mk)
          rw [show goodB (Wd.mk (ls 0) (ls 1) (ls 2) (ls 3) mk).slot (Wd.mk (ls 0) (ls 1) (ls 2) (ls 3) mk).gen (Wd.mk (ls 0) (ls 1) (ls 2) (ls 3) mk).tag (Wd.mk (ls 0) (ls 1) (ls 2) (ls 3) mk).num = true from hg] at h2
          exact of_decide_eq_true h2.symm
        have HG := Lib.hid gd
        have PG := Lib.hid (rPack_good (Wd.mk (ls 0) (ls 1) (ls 2) (ls 3) mk) gd)
        clear hg gd
        by_cases ht : txtB (Wd.mk (ls 0) (ls 1) (ls 2) (ls 3) mk) = s
        · have HT := Lib.hid ht
          have k1 : ((txtB (Wd.mk (ls 0) (ls 1) (ls 2) (ls 3) mk)).toList == s.toList) = true := by rw [ht]; simp
          have k2 : ((txtB (Wd.mk (ls 0) (ls 1) (ls 2) (ls 3) mk)).toList != s.toList) = false := by rw [bne, k1]; rfl
          clear ht
          go_wp2_with fail
          refine (PG.out _).mono ?_
          rintro e w2 ⟨rfl, hb⟩
          have HB2 := Lib.hid (below_trans (Below.drew (below_alloc HB.out _)) hb)
          have HR2 := Lib.hid (BlkW.below (w := (wr.alloc (.cells #[.int .i64 (ls 0), .int .i64 (ls 1), .int .i64 (ls 2), .int .i64 (ls 3), .bool mk] 23)).drew) (HI.out.res.alloc _) hb)
          have HN2 := Lib.hid (BlkW.below (w := (wr.alloc (.cells #[.int .i64 (ls 0), .int .i64 (ls 1), .int .i64 (ls 2), .int .i64 (ls 3), .bool mk] 23)).drew) (HI.out.none.alloc _) hb)
          have HC2 := Lib.hid (BlkW.below (w := (wr.alloc (.cells #[.int .i64 (ls 0), .int .i64 (ls 1), .int .i64 (ls 2), .int .i64 (ls 3), .bool mk] 23)).drew) (BlkW.new wr 23 _) hb)
          clear hb r0 r1 r2 r3 r4 o0 o1 o2 o3 o4 f0 f1 f2 f3 f4 n0 n1 n2 n3
          have v0 := HR2.out.cell 0
          have v1 := HR2.out.cell 1
          have v2 := HR2.out.cell 2
          have v3 := HR2.out.cell 3
          have v4 := HR2.out.cell 4
          have x0 := HN2.out.cell 0
          have x1 := HN2.out.cell 1
          have x2 := HN2.out.cell 2
          have x3 := HN2.out.cell 3
          have x4 := HN2.out.cell 4
          have y0 := HC2.out.cell 0
          have y1 := HC2.out.cell 1
          have y2 := HC2.out.cell 2
          have y3 := HC2.out.cell 3
          have y4 := HC2.out.cell 4
          simp only [List.getElem?_toArray, List.getElem?_cons_succ, List.getElem?_cons_zero] at v0 v1 v2 v3 v4 x0 x1 x2 x3 x4 y0 y1 y2 y3 y4
          have g0 := HR2.out.frozen 0
          have g1 := HR2.out.frozen 1
          have g2 := HR2.out.frozen 2
          have g3 := HR2.out.frozen 3
          have g4 := HR2.out.frozen 4
          go_wp2
          refine bodyPost_ret (v := .tuple #[.agg #[.int .i64 (ls 0), .int .i64 (ls 1), .int .i64 (ls 2), .int .i64 (ls 3), .bool mk], .bool true]) (by simp [results, Tryd.results12, go_sem, v0, v1, v2, v3, v4]) rfl ⟨⟨ls 0, ls 1, ls 2, ls 3, mk⟩, true, rfl, .inl ⟨rfl, HG.out, HT.out⟩, ?_⟩
          have hb := HB2.out
          clear HB HI HB2 HR2 HN2 HC2 HD PG HG HT
          repeat (first | with_reducible exact hb | with_reducible refine below_set ?_ _ _ _ (Nat.le_refl _))
        · have hno : Hid (∀ d : Wd, d.Good → txtB d ≠ s) := fun d hd e => by
            have h1 := HD.out d hd e
            exact ht (by rw [h1]; exact e)
          have k1 : ((txtB (Wd.mk (ls 0) (ls 1) (ls 2) (ls 3) mk)).toList == s.toList) = false := by
            rw [beq_eq_false_iff_ne, ByteArray.toList_eq, ByteArray.toList_eq]
            exact fun e => ht (ba_ext e)
          have k2 : ((txtB (Wd.mk (ls 0) (ls 1) (ls 2) (ls 3) mk)).toList != s.toList) = true := by rw [bne, k1]; rfl
          clear ht
          go_wp2_with fail
          refine (PG.out _).mono ?_
          rintro e w2 ⟨rfl, hb⟩
          have HB2 := Lib.hid (below_trans (Below.drew (below_alloc HB.out _)) hb)
          have HR2 := Lib.hid (BlkW.below (w := (wr.alloc (.cells #[.int .i64 (ls 0), .int .i64 (ls 1), .int .i64 (ls 2), .int .i64 (ls 3), .bool mk] 23)).drew) (HI.out.res.alloc _) hb)
          have HN2 := Lib.hid (BlkW.below (w := (wr.alloc (.cells #[.int .i64 (ls 0), .int .i64 (ls 1), .int .i64 (ls 2), .int .i64 (ls 3), .bool mk] 23)).drew) (HI.out.none.alloc _) hb)
          have HC2 := Lib.hid (BlkW.below (w := (wr.alloc (.cells #[.int .i64 (ls 0), .int .i64 (ls 1), .int .i64 (ls 2), .int .i64 (ls 3), .bool mk] 23)).drew) (BlkW.new wr 23 _) hb)
          clear hb r0 r1 r2 r3 r4 o0 o1 o2 o3 o4 f0 f1 f2 f3 f4 n0 n1 n2 n3
          have v0 := HR2.out.cell 0
          have v1 := HR2.out.cell 1
          have v2 := HR2.out.cell 2
          have v3 := HR2.out.cell 3
          have v4 := HR2.out.cell 4
          have x0 := HN2.out.cell 0
          have x1 := HN2.out.cell 1
          have x2 := HN2.out.cell 2
          have x3 := HN2.out.cell 3
          have x4 := HN2.out.cell 4
          have y0 := HC2.out.cell 0
          have y1 := HC2.out.cell 1
          have y2 := HC2.out.cell 2
          have y3 := HC2.out.cell 3
          have y4 := HC2.out.cell 4
          simp only [List.getElem?_toArray, List.getElem?_cons_succ, List.getElem?_cons_zero] at v0 v1 v2 v3 v4 x0 x1 x2 x3 x4 y0 y1 y2 y3 y4
          have g0 := HR2.out.frozen 0
          have g1 := HR2.out.frozen 1
          have g2 := HR2.out.frozen 2
          have g3 := HR2.out.frozen 3
          have g4 := HR2.out.frozen 4
          go_wp2
          refine bodyPost_ret (v := .tuple #[.agg #[.int .i64 0, .int .i64 0, .int .i64 0, .int .i64 0, .bool false], .bool false]) (by simp [results, Tryd.results12, go_sem, v0, v1, v2, v3, v4]) rfl ⟨⟨0, 0, 0, 0, false⟩, false, rfl, .inr ⟨rfl, rfl, hno.out⟩, ?_⟩
          have hb := HB2.out
          clear HB HI HB2 HR2 HN2 HC2 HD PG HG hno
          repeat (first | with_reducible exact hb | with_reducible refine below_set ?_ _ _ _ (Nat.le_refl _))
end Go.Proofs.YtjkgglihpkkieaaDoor
