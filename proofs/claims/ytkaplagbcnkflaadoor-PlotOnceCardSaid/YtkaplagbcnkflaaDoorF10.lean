/- plot: New. A template (fill.py). -/
import Derived.Test.YtkaplagbcnkflaaDoorF9
import Derived.LoopTactic
namespace Go.Proofs.YtkaplagbcnkflaaDoor
open Go.RowKit Go.Extern.Stop Go.Stop Go.Extern Go.Sort
theorem run_make_rowN {P : Program} (t e : TypeId) (i : TypeInfo) (z : Value) (ht : P.underlying t = some (.slice e)) (hi : P.info? e = some i) (hz : i.zero = some z)
    (kl kc : IntKind) (n c : Nat) (hnc : n ≤ c) (hbytes : i.bytes * c ≤ 281474976710656) (h63 : c ≤ 9223372036854775807) (w : World) :
    (Instr.makeSlice t (.int kl (n : Int)) (.int kc (c : Int))).run P w = .ok (.slice (some ⟨w.heap.size, 0, none⟩) n c) (w.alloc (.cells (madeCells z.cells (c * i.size)) e)) := by
  have hb : (i.bytes : Int) * (c : Int) ≤ 281474976710656 := by
    have h : ((i.bytes * c : Nat) : Int) ≤ 281474976710656 := by omega
    rwa [Int.natCast_mul] at h
  have hr := run_make (P := P) w t e i z ht hi hz kl kc n c (by omega) (by omega) hb (by omega)
  simp only [Int.toNat_natCast] at hr
  exact hr
/-- The cells of a slot that was never given. -/
def zeroL : List Value := [.int .i64 0, .bool false] ++ (wc zw ++ (wc zw ++ (wc zw ++ (wc zw ++ (wc zw ++ (wc zw ++ (wc zw ++ (wc zw ++ (wc zw ++ wc zw)))))))))
def zeroSlot : Array Value := zeroL.toArray
theorem infoSlot : (Tryd.prog.info? 68).map (fun i => (i.zero, i.size, i.bytes)) = some (some (.agg zeroSlot), 52, 416) := by kernel_rfl
theorem infoWord : (Tryd.prog.info? 35).map (fun i => (i.zero, i.size, i.bytes)) = some (some (.agg (wc zw).toArray), 5, 40) := by kernel_rfl
theorem made_at (z : Array Value) (n j : Nat) (v : Value) (hj : j < n) (hv : z[j % z.size]? = some v) : (madeCells z n)[j]? = some v := by
  unfold madeCells
  rw [Array.getElem?_map, Array.getElem?_range, if_pos hj]
  obtain ⟨h, e⟩ := Array.getElem?_eq_some_iff.1 hv
  simp [Array.getElem!_eq_getD, Array.getD, h, e]
theorem zeroL_word : ∀ f, f < 10 → ∀ j, j < 5 → zeroL[2 + f * 5 + j]? = (wc zw)[j]? := by
  intro f hf j hj
  match f, hf with
  | 0, _ | 1, _ | 2, _ | 3, _ | 4, _ | 5, _ | 6, _ | 7, _ | 8, _ | 9, _ =>
    match j, hj with
    | 0, _ | 1, _ | 2, _ | 3, _ | 4, _ => rfl
theorem zeroSlot_word (f : Nat) (hf : f < 10) (j : Nat) (hj : j < 5) : zeroSlot[2 + f * 5 + j]? = (wc zw)[j]? := by
  unfold zeroSlot
  rw [List.getElem?_toArray]
  exact zeroL_word f hf j hj
theorem slots_made {w : World} {bs n : Nat} (h : BlkW w bs 68 (madeCells zeroSlot (n * 52))) : Slots w bs n (fun _ => ⟨0, false, fun _ => zw⟩) := by
  have hz : zeroSlot.size = 52 := rfl
  have key : ∀ i r v, i < n → r < 52 → zeroSlot[r]? = some v → w.cell? ⟨bs, i * 52 + r, none⟩ = some v := by
    intro i r v hi hr hv
    rw [h.cell]
    refine made_at _ _ _ _ (by omega) ?_
    rw [hz, show (i * 52 + r) % 52 = r by omega]
    exact hv
  refine ⟨⟨_, h, size_madeCells _ _⟩, fun i hi j v hv => ?_, fun i f hi hf j v hv => ?_⟩
  · match j with
    | 0 => exact key i 0 v hi (by omega) (by unfold zeroSlot; rw [List.getElem?_toArray]; exact hv)
    | 1 => exact key i 1 v hi (by omega) (by unfold zeroSlot; rw [List.getElem?_toArray]; exact hv)
    | j + 2 => simp at hv
  · have hj : j < 5 := (List.getElem?_eq_some_iff.1 hv).1
    have := key i (2 + f * 5 + j) v hi (by omega) (by rw [zeroSlot_word f hf j hj]; exact hv)
    rw [show i * 52 + 2 + f * 5 + j = i * 52 + (2 + f * 5 + j) by omega]
    exact this
theorem brd_made {w : World} {bb m : Nat} (h : BlkW w bb 35 (madeCells (wc zw).toArray (m * 5))) : Brd w bb m (fun _ => zw) := by
  have hz : (wc zw).toArray.size = 5 := rfl
  refine ⟨⟨_, h, size_madeCells _ _⟩, fun f hf j v hv => ?_⟩
  have hj : j < 5 := (List.getElem?_eq_some_iff.1 hv).1
  rw [h.cell]
  refine made_at _ _ _ _ (by omega) ?_
  rw [hz, show (f * 5 + j) % 5 = j by omega]
  simpa using hv
/-- A new plot while its slots are laid on the row: those from c on lie there. -/
def St.row (n m c : Nat) : St := { St.new n m with free := List.range' c (n - c) }
theorem row_end (n m : Nat) : St.row n m 0 = St.new n m := by
  unfold St.row St.new
  simp [List.range_eq_range']
theorem row_next (n c : Nat) (h : c < n) : List.range' c (n - c) = c :: List.range' (c + 1) (n - (c + 1)) := by
  rw [show n - c = (n - (c + 1)) + 1 by omega, List.range'_succ]
theorem rep_made {w : World} {E : Flt → Addr} {B p bs bb n m : Nat} (h1 : BlkW w bs 68 (madeCells zeroSlot (n * 52))) (h2 : BlkW w bb 35 (madeCells (wc zw).toArray (m * 5)))
    (h3 : BlkW w p 58 #[.slice (some ⟨bs, 0, none⟩) n n, .slice (some ⟨bb, 0, none⟩) m m, .slice none 0 0, .int .i64 0, .int .i64 0, .nilIface]) (b1 : B ≤ bs) (b2 : B ≤ bb) (b3 : B ≤ p) :
    Rep w E B p bs bb (.slice none 0 0) .nilIface (St.row n m n) :=
  ⟨h3, slots_made h1, brd_made h2, by
    have : (St.row n m n).free = [] := by simp [St.row]
    rw [this]
    exact ⟨rfl, .inl ⟨rfl, rfl⟩⟩, rfl, b3, b1, b2⟩
def NewPost (w : World) (E : Flt → Addr) (n m : Nat) (e : Ending) (w' : World) : Prop :=
  ∃ p bs bb v, e = .returned (.tuple #[.pointer (some ⟨p, 0, none⟩), .nilIface]) ∧ Rep w' E w.heap.size p bs bb v .nilIface (St.new n m) ∧ Below w.heap.size w w'
def NewRel (w : World) (E : Flt → Addr) (p n m : Nat) (vi : Value) (wr : World) : Prop :=
  ∃ (c : Nat) (v : Value) (bs bb : Nat), c ≤ n ∧ vi = .int .i64 (c : Int) ∧ Rep wr E w.heap.size p bs bb v .nilIface (St.row n m c) ∧ Below w.heap.size w wr
theorem NewRel.drew {w wr : World} {E : Flt → Addr} {p n m : Nat} {vi : Value} (h : NewRel w E p n m vi wr) : NewRel w E p n m vi wr.drew := by
  obtain ⟨c, v, bs, bb, h1, h2, h3, h4⟩ := h
  exact ⟨c, v, bs, bb, h1, h2, h3.keep ((Below.refl _ _).drew), h4.drew⟩
theorem new_start1 (w : World) (E : Flt → Addr) (n m : Nat) : NewRel w E (w.heap.size + 1 + 1) n m (.int .i64 (n : Int)) (((w.alloc (.cells (madeCells zeroSlot (n * 52)) 68)).alloc (.cells (madeCells (wc zw).toArray (m * 5)) 35)).alloc
    (.cells #[.slice (some ⟨w.heap.size, 0, none⟩) n n, .slice (some ⟨w.heap.size + 1, 0, none⟩) m m, .slice none 0 0, .int .i64 0, .int .i64 0, .nilIface] 58)) := by
  obtain ⟨a1, a2, a3⟩ := blk3 w (madeCells zeroSlot (n * 52)) (madeCells (wc zw).toArray (m * 5)) #[.slice (some ⟨w.heap.size, 0, none⟩) n n, .slice (some ⟨w.heap.size + 1, 0, none⟩) m m, .slice none 0 0, .int .i64 0, .int .i64 0, .nilIface] 68 35 58
  exact ⟨n, _, _, _, Nat.le_refl _, rfl, rep_made a1 a2 a3 (by omega) (by omega) (by omega), below_alloc (below_alloc (below_alloc (Below.refl _ _) _) _) _⟩
theorem new_start2 (w : World) (E : Flt → Addr) (n m : Nat) : NewRel w E (w.heap.size + 1 + 1) n m (.int .i64 (n : Int)) (((w.alloc (.cells (madeCells (wc zw).toArray (m * 5)) 35)).alloc (.cells (madeCells zeroSlot (n * 52)) 68)).alloc
    (.cells #[.slice (some ⟨w.heap.size + 1, 0, none⟩) n n, .slice (some ⟨w.heap.size, 0, none⟩) m m, .slice none 0 0, .int .i64 0, .int .i64 0, .nilIface] 58)) := by
  obtain ⟨a1, a2, a3⟩ := blk3 w (madeCells (wc zw).toArray (m * 5)) (madeCells zeroSlot (n * 52)) #[.slice (some ⟨w.heap.size + 1, 0, none⟩) n n, .slice (some ⟨w.heap.size, 0, none⟩) m m, .slice none 0 0, .int .i64 0, .int .i64 0, .nilIface] 35 68 58
  exact ⟨n, _, _, _, Nat.le_refl _, rfl, rep_made a2 a1 a3 (by omega) (by omega) (by omega), below_alloc (below_alloc (below_alloc (Below.refl _ _) _) _) _⟩
set_option maxRecDepth 100000 in
set_option maxHeartbeats 4000000 in
theorem New_any (E : Flt → Addr) (n m : Nat) (hn : n ≤ 1024) (hm : m ≤ 200) (w : World) :
    Calls Tryd.prog 8 #[.int .i64 (n : Int), .int .i64 (m : Int)] w (NewPost w E n m) := by
  obtain ⟨i1, hi1, hz1, hs1, hy1⟩ := info_parts infoSlot
  obtain ⟨i2, hi2, hz2, hs2, hy2⟩ := info_parts infoWord
  obtain ⟨i0, hi0, hz0, hz01, hz02⟩ := info_parts info3
  have mk1 := fun W => run_make_rowN (P := Tryd.prog) 56 68 i1 _ Tryd.underlying56 hi1 hz1 .i64 .i64 n n (Nat.le_refl _) (by rw [hy1]; omega) (by omega) W
  have mk2 := fun W => run_make_rowN (P := Tryd.prog) 30 35 i2 _ Tryd.underlying30 hi2 hz2 .i64 .i64 m m (Nat.le_refl _) (by rw [hy2]; omega) (by omega) W
  rw [hs1] at mk1
  rw [hs2] at mk2
  have h1 : (n : Int) ≤ 1024 := by omega
  have h2 : (m : Int) ≤ 200 := by omega
  have k1 : decide ((n : Int) < 0) = false := by simp
  have k2 : decide ((m : Int) < 0) = false := by simp
  have k3 : decide ((1024 : Int) < n) = false := by simp; omega
  have k4 : decide ((200 : Int) < m) = false := by simp; omega
  clear hi1 hz1 hs1 hy1 hi2 hz2 hs2 hy2
  go_enter Tryd.func8, Tryd.ntmps8
  go_upto_region 3 with (fail)
  go_region
  all_goals
    clear mk1 mk2
    go_wp2
    go_loopw [7] (NewRel w E (w.heap.size + 1 + 1) n m) (fun i _ => (intOf i).toNat)
    case atStart =>
      first
        | exact (new_start1 w E n m).drew
        | exact (new_start2 w E n m).drew
    case round =>
      obtain ⟨c, v, bs, bb, hc, rfl, hrep, hbel⟩ := hrel
      obtain ⟨wo, rfl⟩ : ∃ wo : World, wo = wr := ⟨_, rfl⟩
      have HB := Lib.hid hbel
      have HR := Lib.hid hrep
      have c2 := hrep.pcells.2.2.1
      have f2 := hrep.hp.frozen 2
      have hzp := hrep.hp.lt
      clear hbel hrep
      by_cases h0 : c = 0
      · subst h0
        rw [row_end] at HR
        go_wp2
        go_ret2
        exact ⟨_, bs, bb, v, rfl, HR.out, HB.out⟩
      · obtain ⟨d, rfl⟩ : ∃ d, c = d + 1 := ⟨c - 1, by omega⟩
        clear h0
        have j1 : (1 : Int) ≤ (d : Int) + 1 := by omega
        have j2 : (d : Int) + 1 ≤ 1024 := by omega
        have hlen : (St.row n m (d + 1)).free.length ≤ 1024 := by simp [St.row]; omega
        go_wp2_with (at_builtin; refine wpList_append_own_at _ rfl _ _ 48 rfl w.heap.size 3 i0 (.int .i64 0) 1 8 Tryd.underlying48 hi0 hz0 hz01 hz02 rfl (by decide) v _ _ (by rfl) (HR.out.alloc _).free ⟨wo.heap.size, 0, none⟩ 1 1 [.int .i64 ((d : Int) + 1)] (by rfl) rfl ?c1 ?c2 ?c3 ?c4 ?c5 ?_)
        case c1 => exact cell_one_new wo (.int .i64 ((d : Int) + 1)) 3
        case c2 => intro u hu; simp at hu; subst hu; rfl
        case c3 => simp [maxLen]; omega
        case c4 => omega
        case c5 => rw [World.size_alloc]; have := HB.out.size; omega
        intro v' w4 hown' hgrow _ _
        obtain ⟨g', cap', rfl, _, _⟩ := hown'.form (by omega)
        have R2 := HR.out.alloc (.cells #[.int .i64 ((d : Int) + 1)] 3)
        have R4 := R2.regrow (l := d :: (St.row n m (d + 1)).free) hgrow (by rw [frow_cons]; exact hown')
        have e4 : ({ St.row n m (d + 1) with free := d :: (St.row n m (d + 1)).free } : St) = St.row n m d := by
          unfold St.row
          simp only []
          rw [row_next n d (by omega)]
        rw [e4] at R4
        have p4 := (hgrow.block _ R2.hp.lt (fun e => R2.ne.2.2.2.1 e.symm)).trans R2.hp
        have hb4 := ((below_alloc HB.out (.cells #[.int .i64 ((d : Int) + 1)] 3)).grown hgrow (below_alloc HB.out _).size (fun k e => (R2.free.lt k e).1)).setCell (p := ⟨w.heap.size + 1 + 1, 2, none⟩) R2.bp (.slice (some ⟨g', 0, none⟩) ((St.row n m (d + 1)).free.length + 1) cap')
        have g2 : w4.cell? ⟨w.heap.size + 1 + 1, 2, none⟩ = some v := by
          have := BlkW.cell p4 2
          exact this
        have g3 := BlkW.frozen p4 2
        have H4 := Lib.hid R4
        have B4 := Lib.hid hb4
        clear R2 R4 e4 p4 hb4 hown' hgrow c2 f2 hlen
        go_wp2
        refine ⟨⟨d, _, bs, bb, by omega, by go_num, H4.out, B4.out⟩, by simp [intOf]⟩
end Go.Proofs.YtkaplagbcnkflaaDoor
