/- plot: Used, as far as how many it tells. A template (fill.py). -/
import Derived.Test.YtkaplagbcnkflaaDoorLifoMod
import Derived.LoopTactic
import Derived.OwnWalk
import Derived.Deep.Cut
namespace Go.Proofs.YtkaplagbcnkflaaDoor
open Go.RowKit Go.Extern.Stop Go.Stop Go.Extern Go.Sort
/-- How many of the first k slots are given. -/
def St.count (t : St) (k : Nat) : Nat := ((List.range k).filter fun i => (t.slot i).given).length
theorem count_succ (t : St) (k : Nat) : t.count (k + 1) = t.count k + (if (t.slot k).given = true then 1 else 0) := by
  unfold St.count
  rw [List.range_succ, List.filter_append, List.length_append]
  congr 1
  by_cases h : (t.slot k).given = true
  · simp [h]
  · have h' : (t.slot k).given = false := by simpa using h
    simp [h']
theorem count_le (t : St) (k : Nat) : t.count k ≤ k := by
  unfold St.count
  exact Nat.le_trans (List.length_filter_le _ _) (by simp)
theorem nodup_sub : ∀ l1 l2 : List Nat, l1.Nodup → (∀ x ∈ l1, x ∈ l2) → l1.length ≤ l2.length
  | [], _, _, _ => Nat.zero_le _
  | x :: l, l2, hn, h => by
    have hx := List.nodup_cons.1 hn
    have hm := h x (List.mem_cons_self ..)
    have ih := nodup_sub l (l2.erase x) hx.2 (fun y hy => (List.mem_erase_of_ne (fun e => hx.1 (by rw [← e]; exact hy))).2 (h y (List.mem_cons_of_mem _ hy)))
    have := @List.length_erase_of_mem _ _ _ x l2 hm
    have hp := List.length_pos_of_mem hm
    simp only [List.length_cons]
    omega
theorem count_all {t : St} (o : t.Ok) : t.count t.n + t.free.length = t.n := by
  have hlen : ((List.range t.n).filter fun i => (t.slot i).given).length + ((List.range t.n).filter fun i => !(t.slot i).given).length = t.n := by
    have : ∀ l : List Nat, (l.filter fun i => (t.slot i).given).length + (l.filter fun i => !(t.slot i).given).length = l.length := by
      intro l
      induction l with
      | nil => rfl
      | cons a l ih =>
        cases h : (t.slot a).given <;> simp [h] <;> omega
    simpa using this (List.range t.n)
  have h1 : t.free.length ≤ ((List.range t.n).filter fun i => !(t.slot i).given).length := nodup_sub _ _ o.nodup (fun x hx => by
    have hlt := o.lt x hx
    have := (o.mem x hlt).1 hx
    simp [List.mem_filter, hlt, this])
  have h2 : ((List.range t.n).filter fun i => !(t.slot i).given).length ≤ t.free.length := nodup_sub _ _ (List.Pairwise.filter _ List.nodup_range) (fun x hx => by
    have h := List.mem_filter.1 hx
    have hlt : x < t.n := by simpa using h.1
    exact (o.mem x hlt).2 (by simpa using h.2))
  unfold St.count
  omega

theorem range_append {w : World} {b o : Nat} {l1 l2 : List Value} (h1 : w.rangeAt b o l1) (h2 : w.rangeAt b (o + l1.length) l2) : w.rangeAt b o (l1 ++ l2) := fun j v hv => by
  by_cases hj : j < l1.length
  · rw [List.getElem?_append_left hj] at hv; exact h1 j v hv
  · rw [List.getElem?_append_right (by omega)] at hv
    have := h2 (j - l1.length) v hv
    rwa [show o + l1.length + (j - l1.length) = o + j by omega] at this
/-- The cells of a slot. -/
def slotCells (s : Sl) : List Value := [.int .i64 (s.gen : Int), .bool s.given] ++ (wc (s.cell 0) ++ (wc (s.cell 1) ++ (wc (s.cell 2) ++ (wc (s.cell 3) ++ (wc (s.cell 4) ++ (wc (s.cell 5) ++ (wc (s.cell 6) ++ (wc (s.cell 7) ++ (wc (s.cell 8) ++ wc (s.cell 9))))))))))
theorem slotCells_at {w : World} {bs n : Nat} {S : Nat → Sl} (h : Slots w bs n S) {i : Nat} (hi : i < n) : w.rangeAt bs (i * 52) (slotCells (S i)) := by
  have c := fun f hf => h.cell i f hi hf
  have c0 := c 0 (by omega)
  have c1 := c 1 (by omega)
  have c2 := c 2 (by omega)
  have c3 := c 3 (by omega)
  have c4 := c 4 (by omega)
  have c5 := c 5 (by omega)
  have c6 := c 6 (by omega)
  have c7 := c 7 (by omega)
  have c8 := c 8 (by omega)
  have c9 := c 9 (by omega)
  exact range_append (h.head i hi) (range_append c0 (range_append c1 (range_append c2 (range_append c3 (range_append c4 (range_append c5 (range_append c6 (range_append c7 (range_append c8 c9)))))))))
theorem slotCells_one (s : Sl) : (slotCells s).toArray.all (·.oneCell') = true :=
  all_oneCell_toArray fun v hv => by
    simp [slotCells, wc] at hv
    repeat (first | (subst hv; rfl) | (rcases hv with rfl | hv; · rfl))
theorem below_sets' {B : Nat} {a : World} {b : Nat} (hB : B ≤ b) : ∀ (vs : List Value) (o : Nat) {w : World}, Below B a w → Below B a (w.setCells b o vs)
  | [], _, _, h => h
  | v :: r, o, _, h => below_sets' hB r (o + 1) (h.setCell (p := ⟨b, o, none⟩) hB v)
theorem news_at (w : World) (d : Wd) : ∀ j u, (wc d)[j]? = some u → (w.alloc (.cells #[.int .i64 d.slot, .int .i64 d.gen, .int .i64 d.tag, .int .i64 d.num, .bool d.mark] 35)).cell? ((⟨w.heap.size, 0, none⟩ : Addr).add j) = some u := by
  intro j u h
  rw [Addr.add_mid, Nat.zero_add, (BlkW.new w 35 _).cell j]
  simpa [wc] using h
theorem zeroSlot_lit : zeroSlot = #[.int .i64 0, .bool false, .int .i64 0, .int .i64 0, .int .i64 0, .int .i64 0, .bool false, .int .i64 0, .int .i64 0, .int .i64 0, .int .i64 0, .bool false, .int .i64 0, .int .i64 0, .int .i64 0, .int .i64 0, .bool false, .int .i64 0, .int .i64 0, .int .i64 0, .int .i64 0, .bool false, .int .i64 0, .int .i64 0, .int .i64 0, .int .i64 0, .bool false, .int .i64 0, .int .i64 0, .int .i64 0, .int .i64 0, .bool false, .int .i64 0, .int .i64 0, .int .i64 0, .int .i64 0, .bool false, .int .i64 0, .int .i64 0, .int .i64 0, .int .i64 0, .bool false, .int .i64 0, .int .i64 0, .int .i64 0, .int .i64 0, .bool false, .int .i64 0, .int .i64 0, .int .i64 0, .int .i64 0, .bool false] := rfl
def UsedPost (w : World) (k : Nat) (e : Ending) (w' : World) : Prop := ∃ u xs, e = .returned u ∧ w'.ownsRow w.heap.size 35 5 u k xs ∧ Below w.heap.size w w'
def UsRel (w : World) (t : St) (u vi : Value) (wr : World) : Prop := ∃ (i : Nat) (xs : List Value), i ≤ t.n ∧ vi = .int .i64 (i : Int) ∧ wr.ownsRow w.heap.size 35 5 u (t.count i) xs ∧ Below w.heap.size w wr
set_option maxRecDepth 100000 in
set_option maxHeartbeats 4000000 in
theorem used_any {w : World} {E : Flt → Addr} {B p bs bb : Nat} {v fv : Value} {t : St} (h : Rep w E B p bs bb v fv t) (o : t.Ok) :
    Calls Tryd.prog 12 #[.pointer (some ⟨p, 0, none⟩)] w (UsedPost w (t.count t.n)) := by
  have HR := Lib.hid h
  have c0 := h.pcells.1
  have hn := o.size
  obtain ⟨i2, hi2, hz2, hs2, hy2⟩ := info_parts infoWord
  have j0 : (t.n : Int) ≤ 1024 := by omega
  clear h o
  go_enter Tryd.func12, Tryd.ntmps12
  go_wp2
  clear c0
  go_loopw [3, 13] (UsRel w t) (fun _ i _ => t.n - (intOf i).toNat)
  case atStart => exact ⟨0, [], by omega, rfl, ⟨rfl, .inl ⟨rfl, rfl⟩⟩, Below.refl _ _⟩
  case round =>
    obtain ⟨i, xs, hi, rfl, hown, hbel⟩ := hrel
    obtain ⟨wo, rfl⟩ : ∃ wo : World, wo = wr := ⟨_, rfl⟩
    have HO := Lib.hid hown
    have HB := Lib.hid hbel
    have hsz := hbel.size
    clear hown hbel
    by_cases hlt : i < t.n
    · have j1 : (i : Int) < t.n := by omega
      have HS := Lib.hid ((HR.out.keep HB.out).slots)
      have HC := Lib.hid (slotCells_at HS.out hlt)
      have hcl := count_le t i
      obtain ⟨s, hs⟩ : ∃ s, s = t.slot i := ⟨_, rfl⟩
      rw [← hs] at HC
      have hcs := Lib.hid (count_succ t i)
      rw [← hs] at hcs
      clear hs
      have lbs : bs < wo.heap.size := HS.out.lt
      have hT : Hid ((wo.alloc (.cells zeroSlot 68)).there wo.heap.size 0 52) := there_of_blk (BlkW.new wo 68 zeroSlot) 0 52 (Nat.le_refl _)
      go_upto_region 7 with (first
        | (refine wpList_load_mid rfl 68 (.tmp 16) rfl bs (i * 52) (by rfl) (slotCells s) _ HC.out Tryd.underlying68 rfl (by kernel_rfl) ?_)
        | (refine wpList_store_mid rfl 68 (.tmp 5) (.tmp 17) rfl wo.heap.size 0 (slotCells s).toArray (by rfl) (by rfl) hT.out (by kernel_rfl) (slotCells_one s) ?_))
      rw [← zeroSlot_lit]
      have hsame := World.rangeAt_setCells_same (wo.alloc (.cells zeroSlot 68)) wo.heap.size 0 (slotCells s) hT.out
      have g0 := hsame 0 _ rfl
      have g1 := hsame 1 _ rfl
      have BX := Lib.hid (below_sets' (Nat.le_refl wo.heap.size) (slotCells s) 0 (below_alloc (Below.refl wo.heap.size wo) (.cells zeroSlot 68)))
      have lX : wo.heap.size < ((wo.alloc (.cells zeroSlot 68)).setCells wo.heap.size 0 (slotCells s)).heap.size := lt_of_cell g0
      simp only [Nat.zero_add] at g0 g1
      clear hsame hT
      generalize (wo.alloc (.cells zeroSlot 68)).setCells wo.heap.size 0 (slotCells s) = X at g0 g1 BX lX ⊢
      have HOX := Lib.hid (own_block HO.out (fun g e => BX.out.block g (HO.out.lt g e).2))
      have HBX := Lib.hid (show Below w.heap.size w X from HB.out.trans (BX.out.mono HB.out.size))
      have hsz2 := HBX.out.size
      cases hg : s.given with
      | false =>
        rw [hg] at g1
        have HN := Lib.hid (show t.count (i + 1) = t.count i by rw [hcs.out, hg]; rfl)
        clear hg
        go_simp
        go_wp2
        refine ⟨⟨i + 1, xs, by omega, by go_num, by rw [HN.out]; exact HOX.out, HBX.out⟩, by simp [intOf]; omega⟩
      | true =>
        rw [hg] at g1
        have HN := Lib.hid (show t.count (i + 1) = t.count i + 1 by rw [hcs.out, hg]; rfl)
        clear hg
        go_simp
        go_wp2_with (at_builtin; refine wpList_append_own_at _ rfl _ _ 30 rfl w.heap.size 35 i2 _ 5 40 Tryd.underlying30 hi2 hz2 hs2 hy2 rfl (by decide) u3 _ _ (by rfl) (HOX.out.alloc _) ⟨X.heap.size, 0, none⟩ 1 1 (wc ⟨(i : Int) + 1, (s.gen : Int), 0, 0, false⟩) (by rfl) rfl ?c1 ?c2 ?c3 ?c4 ?c5 ?_)
        case c1 => exact news_at X ⟨(i : Int) + 1, (s.gen : Int), 0, 0, false⟩
        case c2 => intro u hu; simp [wc] at hu; rcases hu with rfl | rfl | rfl | rfl <;> rfl
        case c3 => simp [maxLen]; omega
        case c4 => omega
        case c5 => rw [World.size_alloc]; omega
        intro v' w4 hown' hgrow _ _
        have hb4 := (below_al HBX.out (Nat.le_refl _) (.cells #[.int .i64 ((i : Int) + 1), .int .i64 (s.gen : Int), .int .i64 0, .int .i64 0, .bool false] 35)).grown hgrow (by rw [World.size_alloc]; omega) (fun q e => (HOX.out.lt q e).1)
        have HO4 := Lib.hid hown'
        have HB4 := Lib.hid hb4
        clear hown' hgrow hb4 g0 g1
        go_wp2
        refine ⟨⟨i + 1, _, by omega, by go_num, by rw [HN.out]; exact HO4.out, HB4.out⟩, by simp [intOf]; omega⟩
    · obtain rfl : i = t.n := by omega
      go_wp2
      go_ret
      exact ⟨_, _, rfl, HO.out, HB.out⟩
end Go.Proofs.YtkaplagbcnkflaaDoor
