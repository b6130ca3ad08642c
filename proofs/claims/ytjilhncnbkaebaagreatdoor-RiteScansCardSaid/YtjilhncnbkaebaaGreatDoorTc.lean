/- plot: Used, with what it tells. A template (fill.py). -/
import Derived.Test.YtjilhncnbkaebaaGreatDoorTa
import Derived.Test.YtjilhncnbkaebaaGreatDoorTb
import Derived.LoopTactic
import Derived.OwnWalk
import Derived.Deep.Cut
namespace Go.Proofs.YtjilhncnbkaebaaGreatDoor
open Go.RowKit Go.Extern.Stop Go.Stop Go.Extern Go.Sort
theorem range_append {w : World} {b o : Nat} {l1 l2 : List Value} (h1 : w.rangeAt b o l1) (h2 : w.rangeAt b (o + l1.length) l2) : w.rangeAt b o (l1 ++ l2) := fun j v hv => by
  by_cases hj : j < l1.length
  · rw [List.getElem?_append_left hj] at hv; exact h1 j v hv
  · rw [List.getElem?_append_right (by omega)] at hv
    have := h2 (j - l1.length) v hv
    rwa [show o + l1.length + (j - l1.length) = o + j by omega] at this
/-- The cells of a slot. -/
def slotCells (s : Sl) : List Value := [.int .i64 (s.gen : Int), .bool s.given] ++ (wc (s.cell 0) ++ (wc (s.cell 1) ++ (wc (s.cell 2) ++ (wc (s.cell 3) ++ (wc (s.cell 4) ++ (wc (s.cell 5) ++ (wc (s.cell 6) ++ (wc (s.cell 7) ++ (wc (s.cell 8) ++ wc (s.cell 9))))))))))
theorem slotCells_at {w : World} {bs n : Nat} {S : Nat → Sl} (h : Slots w bs n S) {i : Nat} (hi : i < n) : w.rangeAt bs (i * 52) (slotCells (S i)) := by
  have c := fun f hf => h.cell i f hi hf
  have c0 := c 0 (by omega)
  have c1 := c 1 (by omega)
  have c2 := c 2 (by omega)
  have c3 := c 3 (by omega)
  have c4 := c 4 (by omega)
  have c5 := c 5 (by omega)
  have c6 := c 6 (by omega)
  have c7 := c 7 (by omega)
  have c8 := c 8 (by omega)
  have c9 := c 9 (by omega)
  exact range_append (h.head i hi) (range_append c0 (range_append c1 (range_append c2 (range_append c3 (range_append c4 (range_append c5 (range_append c6 (range_append c7 (range_append c8 c9)))))))))
theorem slotCells_one (s : Sl) : (slotCells s).toArray.all (·.oneCell') = true :=
  all_oneCell_toArray fun v hv => by
    simp [slotCells, wc] at hv
    repeat (first | (subst hv; rfl) | (rcases hv with rfl | hv; · rfl))
theorem below_sets' {B : Nat} {a : World} {b : Nat} (hB : B ≤ b) : ∀ (vs : List Value) (o : Nat) {w : World}, Below B a w → Below B a (w.setCells b o vs)
  | [], _, _, h => h
  | v :: r, o, _, h => below_sets' hB r (o + 1) (h.setCell (p := ⟨b, o, none⟩) hB v)
theorem news_at (w : World) (d : Wd) : ∀ j u, (wc d)[j]? = some u → (w.alloc (.cells #[.int .i64 d.slot, .int .i64 d.gen, .int .i64 d.tag, .int .i64 d.num, .bool d.mark] 34)).cell? ((⟨w.heap.size, 0, none⟩ : Addr).add j) = some u := by
  intro j u h
  rw [Addr.add_mid, Nat.zero_add, (BlkW.new w 34 _).cell j]
  simpa [wc] using h
theorem zeroSlot_lit : zeroSlot = #[.int .i64 0, .bool false, .int .i64 0, .int .i64 0, .int .i64 0, .int .i64 0, .bool false, .int .i64 0, .int .i64 0, .int .i64 0, .int .i64 0, .bool false, .int .i64 0, .int .i64 0, .int .i64 0, .int .i64 0, .bool false, .int .i64 0, .int .i64 0, .int .i64 0, .int .i64 0, .bool false, .int .i64 0, .int .i64 0, .int .i64 0, .int .i64 0, .bool false, .int .i64 0, .int .i64 0, .int .i64 0, .int .i64 0, .bool false, .int .i64 0, .int .i64 0, .int .i64 0, .int .i64 0, .bool false, .int .i64 0, .int .i64 0, .int .i64 0, .int .i64 0, .bool false, .int .i64 0, .int .i64 0, .int .i64 0, .int .i64 0, .bool false, .int .i64 0, .int .i64 0, .int .i64 0, .int .i64 0, .bool false] := rfl
/-- The Refs of the first k slots, as far as they are given. -/
def usedL (t : St) (k : Nat) : List Wd := ((List.range k).filter fun i => (t.slot i).given).map fun (i : Nat) => (⟨(i : Int) + 1, ((t.slot i).gen : Int), 0, 0, false⟩ : Wd)
theorem usedL_succ (t : St) (k : Nat) : usedL t (k + 1) = usedL t k ++ (if (t.slot k).given = true then [⟨(k : Int) + 1, ((t.slot k).gen : Int), 0, 0, false⟩] else []) := by
  unfold usedL
  rw [List.range_succ, List.filter_append, List.map_append]
  congr 1
  by_cases h : (t.slot k).given = true
  · simp [h]
  · have h' : (t.slot k).given = false := by simpa using h
    simp [h']
theorem usedL_len (t : St) (k : Nat) : (usedL t k).length ≤ k := by
  unfold usedL
  rw [List.length_map]
  exact Nat.le_trans (List.length_filter_le _ _) (by simp)
def UsedPost (w : World) (l : List Wd) (e : Ending) (w' : World) : Prop := ∃ u, e = .returned u ∧ Hid (w'.ownsRow w.heap.size 34 5 u l.length (Sv.flat Sv.wc l)) ∧ Hid (Below w.heap.size w w')
def UsRel (w : World) (t : St) (u vi : Value) (wr : World) : Prop := ∃ (i : Nat) (xs : List Wd), i ≤ t.n ∧ vi = .int .i64 (i : Int) ∧ xs = usedL t i ∧ wr.ownsRow w.heap.size 34 5 u xs.length (Sv.flat Sv.wc xs) ∧ Below w.heap.size w wr
set_option maxRecDepth 100000 in
set_option maxHeartbeats 4000000 in
theorem used_any {w : World} {E : Flt → Addr} {B p bs bb : Nat} {v fv : Value} {t : St} (h : Rep w E B p bs bb v fv t) (o : t.Ok) :
    Calls Tryz.prog 27 #[.pointer (some ⟨p, 0, none⟩)] w (UsedPost w (usedL t t.n)) := by
  have HR := Lib.hid h
  have c0 := h.pcells.1
  have hn := o.size
  obtain ⟨i2, hi2, hz2, hs2, hy2⟩ := info_parts infoWord
  have j0 : (t.n : Int) ≤ 1024 := by omega
  clear h o
  go_enter Tryz.func27, Tryz.ntmps27
  go_wp2
  clear c0
  go_loopw [3, 13] (UsRel w t) (fun _ i _ => t.n - (intOf i).toNat)
  case atStart => exact ⟨0, [], by omega, rfl, rfl, ⟨rfl, .inl ⟨rfl, rfl⟩⟩, Below.refl _ _⟩
  case round =>
    obtain ⟨i, xs, hi, rfl, hxs, hown, hbel⟩ := hrel
    have HX := Lib.hid hxs
    obtain ⟨wo, rfl⟩ : ∃ wo : World, wo = wr := ⟨_, rfl⟩
    have HO := Lib.hid hown
    have HB := Lib.hid hbel
    have hsz := hbel.size
    clear hown hbel hxs
    by_cases hlt : i < t.n
    · have j1 : (i : Int) < t.n := by omega
      have HS := Lib.hid ((HR.out.keep HB.out).slots)
      have HC := Lib.hid (slotCells_at HS.out hlt)
      have hcl := usedL_len t i
      rw [← HX.out] at hcl
      obtain ⟨s, hs⟩ : ∃ s, s = t.slot i := ⟨_, rfl⟩
      rw [← hs] at HC
      have hcs := Lib.hid (usedL_succ t i)
      rw [← hs] at hcs
      rw [← HX.out] at hcs
      clear hs
      have lbs : bs < wo.heap.size := HS.out.lt
      have hT : Hid ((wo.alloc (.cells zeroSlot 132)).there wo.heap.size 0 52) := there_of_blk (BlkW.new wo 132 zeroSlot) 0 52 (Nat.le_refl _)
      go_upto_region 7 with (first
        | (refine wpList_load_mid rfl 132 (.tmp 16) rfl bs (i * 52) (by rfl) (slotCells s) _ HC.out Tryz.underlying132 rfl (by kernel_rfl) ?_)
        | (refine wpList_store_mid rfl 132 (.tmp 5) (.tmp 17) rfl wo.heap.size 0 (slotCells s).toArray (by rfl) (by rfl) hT.out (by kernel_rfl) (slotCells_one s) ?_))
      rw [← zeroSlot_lit]
      have hsame := World.rangeAt_setCells_same (wo.alloc (.cells zeroSlot 132)) wo.heap.size 0 (slotCells s) hT.out
      have g0 := hsame 0 _ rfl
      have g1 := hsame 1 _ rfl
      have BX := Lib.hid (below_sets' (Nat.le_refl wo.heap.size) (slotCells s) 0 (below_alloc (Below.refl wo.heap.size wo) (.cells zeroSlot 132)))
      have lX : wo.heap.size < ((wo.alloc (.cells zeroSlot 132)).setCells wo.heap.size 0 (slotCells s)).heap.size := lt_of_cell g0
      simp only [Nat.zero_add] at g0 g1
      clear hsame hT
      generalize (wo.alloc (.cells zeroSlot 132)).setCells wo.heap.size 0 (slotCells s) = X at g0 g1 BX lX ⊢
      have HOX := Lib.hid (Sv.own_block HO.out (fun g e => BX.out.block g (HO.out.lt g e).2))
      have HBX := Lib.hid (show Below w.heap.size w X from HB.out.trans (BX.out.mono HB.out.size))
      have hsz2 := HBX.out.size
      cases hg : s.given with
      | false =>
        rw [hg] at g1
        have HN := Lib.hid (show xs = usedL t (i + 1) by rw [hcs.out, hg]; simp)
        clear hg
        go_simp
        go_wp2
        refine ⟨⟨i + 1, xs, by omega, by go_num, HN.out, HOX.out, HBX.out⟩, by simp [intOf]; omega⟩
      | true =>
        rw [hg] at g1
        have HN := Lib.hid (show xs ++ [⟨(i : Int) + 1, (s.gen : Int), 0, 0, false⟩] = usedL t (i + 1) by rw [hcs.out, hg]; simp)
        clear hg
        go_simp
        go_wp2_with (at_builtin; refine wpList_append_own_at _ rfl _ _ 71 rfl w.heap.size 34 i2 _ 5 40 Tryz.underlying71 hi2 hz2 hs2 hy2 rfl (by decide) u3 _ _ (by rfl) (HOX.out.alloc _) ⟨X.heap.size, 0, none⟩ 1 1 (wc ⟨(i : Int) + 1, (s.gen : Int), 0, 0, false⟩) (by rfl) rfl ?c1 ?c2 ?c3 ?c4 ?c5 ?_)
        case c1 => exact news_at X ⟨(i : Int) + 1, (s.gen : Int), 0, 0, false⟩
        case c2 => intro u hu; simp [wc] at hu; rcases hu with rfl | rfl | rfl | rfl <;> rfl
        case c3 => simp [maxLen]; omega
        case c4 => omega
        case c5 => rw [World.size_alloc]; omega
        intro v' w4 hown' hgrow _ _
        have hb4 := (below_al HBX.out (Nat.le_refl _) (.cells #[.int .i64 ((i : Int) + 1), .int .i64 (s.gen : Int), .int .i64 0, .int .i64 0, .bool false] 34)).grown hgrow (by rw [World.size_alloc]; omega) (fun q e => (HOX.out.lt q e).1)
        have HO4 := Lib.hid hown'
        have HB4 := Lib.hid hb4
        clear hown' hgrow hb4 g0 g1
        go_wp2
        refine ⟨⟨i + 1, _, by omega, by go_num, HN.out, by rw [Sv.flat_snoc, List.length_append]; exact HO4.out, HB4.out⟩, by simp [intOf]; omega⟩
    · obtain rfl : i = t.n := by omega
      go_wp2
      go_ret
      refine ⟨_, rfl, Lib.hid ?_, HB⟩
      rw [← HX.out]
      exact HO.out
theorem One.Used {W w : World} {E : Flt → Addr} {B p bs bb r : Nat} {t : St} {m : Rt} {bx : List (Nat × TypeId × Array Value)} (h : One W w E B p bs bb t r m bx) :
    Calls Tryz.prog 27 #[.pointer (some ⟨p, 0, none⟩)] W fun e w' => ∃ u, e = .returned u ∧ Hid (Sv.RowC Sv.wc 5 w' u (usedL t t.n)) ∧ Hid (One w' w E B p bs bb t r m bx) ∧ Hid (Below W.heap.size W w') := by
  have h' := h
  obtain ⟨K, ⟨⟨v, fv, hr⟩, o, _⟩, _⟩ := h'
  exact (used_any hr o).mono fun e w' ⟨u, he, h1, h2⟩ => ⟨u, he, Lib.hid (Sv.own_row Sv.wc_len h1.out), Lib.hid (h.below h2.out), h2⟩

/-! ### what is kept, in order -/
def stayL (n : Nat) (S : Nat → Bool) : List Nat := (List.range' 1 n).filter S
theorem notes_kept {D : Nat → Wd} {S : Nat → Bool} {n : Nat} (hk : ∀ s, 1 ≤ s → s ≤ n → kp D (nt s) = S s) : ((List.range' 1 n).map nt).filter (kp D) = (stayL n S).map nt := by
  rw [List.filter_map]
  congr 1
  refine List.filter_congr fun s hs => ?_
  have := List.mem_range'_1.1 hs
  exact hk s (by omega) (by omega)
theorem used_kept {t : St} {m : Rt} {n i : Nat} {D : Nat → Wd} {S : Nat → Bool} (h : ScC t m n D i) (hn : m.notes = (stayL n S).map nt) : usedL t n = (stayL n S).map fun (s : Nat) => (⟨(s : Int), 1, 0, 0, false⟩ : Wd) := by
  unfold usedL stayL
  rw [List.range'_eq_map_range, List.filter_map, List.map_map]
  have e : (List.range n).filter (fun i => (t.slot i).given) = (List.range n).filter (S ∘ fun x => 1 + x) := by
    refine List.filter_congr fun k hk => ?_
    have hk : k < n := by simpa using hk
    have := h.given k hk
    rw [hn] at this
    have key : nt (k + 1) ∈ (stayL n S).map nt ↔ S (k + 1) = true := by
      constructor
      · intro hm
        obtain ⟨s, hs, e⟩ := List.mem_map.1 hm
        rw [nt_inj e] at hs
        exact (List.mem_filter.1 hs).2
      · intro hs
        exact List.mem_map.2 ⟨k + 1, List.mem_filter.2 ⟨by rw [List.mem_range'_1]; omega, hs⟩, rfl⟩
    rw [key] at this
    show (t.slot k).given = S (1 + k)
    rw [Nat.add_comm 1 k]
    cases hg : (t.slot k).given <;> cases hs : S (k + 1) <;> simp_all
  rw [e]
  refine List.map_congr_left fun k hk => ?_
  have hk : k < n := by have := (List.mem_filter.1 hk).1; simpa using this
  have hg := h.gen k hk
  show (⟨(k : Int) + 1, ((t.slot k).gen : Int), 0, 0, false⟩ : Wd) = ⟨((1 + k : Nat) : Int), 1, 0, 0, false⟩
  rw [hg]
  congr 1
  omega
theorem kept_succ (S : Nat → Bool) (j : Nat) : stayL (j + 1) S = stayL j S ++ if S (j + 1) = true then [j + 1] else [] := by
  unfold stayL
  rw [List.range'_1_concat, List.filter_append]
  congr 1
  rw [Nat.add_comm 1 j]
  by_cases h : S (j + 1) = true
  · simp [h]
  · have h' : S (j + 1) = false := by simpa using h
    simp [h']
theorem kept_pre (S : Nat → Bool) {j n : Nat} (h : j ≤ n) : ∃ l, stayL n S = stayL j S ++ l := by
  refine ⟨(List.range' (1 + j) (n - j)).filter S, ?_⟩
  unfold stayL
  rw [← List.filter_append]
  congr 1
  have := List.range'_append_1 (s := 1) (m := j) (n := n - j)
  rw [this]
  congr 1
  omega
theorem kept_at (S : Nat → Bool) {j n : Nat} (h : j < n) (hs : S (j + 1) = true) : (stayL n S)[(stayL j S).length]? = some (j + 1) := by
  obtain ⟨l, e⟩ := kept_pre S (show j + 1 ≤ n from h)
  rw [e, kept_succ, if_pos hs]
  simp
end Go.Proofs.YtjilhncnbkaebaaGreatDoor
