/- rite: Begin, Took, Next, Reply, Busy. A template (made by gen_XRp.py). -/
import Derived.Test.YtjilhncnbkaebaaGreatDoorRo
namespace Go.Proofs.YtjilhncnbkaebaaGreatDoor
open Go.RowKit Go.Extern.Stop Go.Stop Go.Extern Go.Sort
section
variable {w w' : World} {B r : Nat} {sv fv nv : Value} {m m' : Rt} {K : Nat → Prop}
theorem box_call (w : World) (c : Cl) : BlkW (w.alloc (.cells #[.int .i64 c.kind, .int .i64 c.s, .int .i64 c.g, .int .i64 c.f, .int .i64 c.old.slot, .int .i64 c.old.gen, .int .i64 c.old.tag, .int .i64 c.old.num, .bool c.old.mark, .int .i64 c.new.slot, .int .i64 c.new.gen, .int .i64 c.new.tag, .int .i64 c.new.num, .bool c.new.mark, .int .i64 c.i, .int .i64 c.j, .int .i64 0, .int .i64 0] 51)) w.heap.size 51 (clc c).toArray := BlkW.new _ _ _
theorem call18 {w : World} {g : Nat} {c : Cl} (h : BlkW w g 51 (clc c).toArray) : w.cell? ⟨g, 0, none⟩ = some (.int .i64 c.kind) ∧ w.cell? ⟨g, 1, none⟩ = some (.int .i64 c.s) ∧ w.cell? ⟨g, 2, none⟩ = some (.int .i64 c.g) ∧ w.cell? ⟨g, 3, none⟩ = some (.int .i64 c.f) ∧ w.cell? ⟨g, 4, none⟩ = some (.int .i64 c.old.slot) ∧ w.cell? ⟨g, 5, none⟩ = some (.int .i64 c.old.gen) ∧ w.cell? ⟨g, 6, none⟩ = some (.int .i64 c.old.tag) ∧ w.cell? ⟨g, 7, none⟩ = some (.int .i64 c.old.num) ∧ w.cell? ⟨g, 8, none⟩ = some (.bool c.old.mark) ∧ w.cell? ⟨g, 9, none⟩ = some (.int .i64 c.new.slot) ∧ w.cell? ⟨g, 10, none⟩ = some (.int .i64 c.new.gen) ∧ w.cell? ⟨g, 11, none⟩ = some (.int .i64 c.new.tag) ∧ w.cell? ⟨g, 12, none⟩ = some (.int .i64 c.new.num) ∧ w.cell? ⟨g, 13, none⟩ = some (.bool c.new.mark) ∧ w.cell? ⟨g, 14, none⟩ = some (.int .i64 c.i) ∧ w.cell? ⟨g, 15, none⟩ = some (.int .i64 c.j) ∧ w.cell? ⟨g, 16, none⟩ = some (.int .i64 0) ∧ w.cell? ⟨g, 17, none⟩ = some (.int .i64 0) := ⟨h.cell 0, h.cell 1, h.cell 2, h.cell 3, h.cell 4, h.cell 5, h.cell 6, h.cell 7, h.cell 8, h.cell 9, h.cell 10, h.cell 11, h.cell 12, h.cell 13, h.cell 14, h.cell 15, h.cell 16, h.cell 17⟩
/-- A call that can be. -/
def Cl.fine (c : Cl) : Prop := (c.kind = 6 ∧ 0 ≤ c.i ∧ c.i ≤ 8 ∧ 0 ≤ c.j ∧ c.j ≤ 8) ∨ (1 ≤ c.kind ∧ c.kind ≤ 11 ∧ ¬ c.kind = 6 ∧ ¬ c.kind = 7)
theorem can_is (c : Cl) (hc : c.fine) (w : World) : Calls Tryz.prog 46 #[clv c] w fun e w' => e = .returned (.bool true) ∧ Below w.heap.size w w' := by
  unfold clv
  rcases hc with ⟨h6, h1, h2, h3, h4⟩ | ⟨h1, h2, h6, h7⟩
  · go_enter Tryz.func46, Tryz.ntmps46
    go_wp2_with (first | (go_at_call 53; refine (within_is _ _ _ _).mono ?_; rintro e w1 ⟨rfl, rfl⟩; simp only [decide_eq_true h1, decide_eq_true h2, decide_eq_true h3, decide_eq_true h4, Bool.and_true]))
    all_goals
      go_ret
      exact ⟨rfl, below_alloc (Below.refl _ _) _⟩
  · have e6 : (c.kind == 6) = false := by simpa using h6
    have e7 : (c.kind == 7) = false := by simpa using h7
    go_enter Tryz.func46, Tryz.ntmps46
    go_wp2_with (first | (go_at_call 53; refine (within_is _ _ _ _).mono ?_; rintro e w1 ⟨rfl, rfl⟩; simp only [decide_eq_true h1, decide_eq_true h2, Bool.and_true]))
    all_goals
      go_ret
      exact ⟨rfl, below_alloc (Below.refl _ _) _⟩
/-- What an exported call leaves that answers nil. -/
def EPost (w : World) (B r : Nat) (K : Nat → Prop) (m : Rt) (e : Ending) (w' : World) : Prop := e = .returned .nilIface ∧ Hid (RStep w B r K m w')
set_option maxRecDepth 100000 in
set_option maxHeartbeats 1000000 in
theorem Begin_is {K0 : Nat → Prop} (h : RiteP w B r sv fv nv m K0) (hbz : m.st.busy = false) (c : Cl) (hc : c.fine) (hG : ∀ W, RiteP W B r nilS nilS nv { m with st := m.st.begin_ c } K0 → Calls Tryz.prog 48 #[.pointer (some ⟨r, 0, none⟩), rpv (zw, false)] W (RPost W B r K0 m')) :
    Calls Tryz.prog 16 #[.pointer (some ⟨r, 0, none⟩), clv c] w (EPost w B r K0 m') := by
  have hb := below_alloc (Below.refl w.heap.size w) (.cells (clc c).toArray 51)
  have HR := Lib.hid (h.below hb)
  have HB := Lib.hid hb
  have HX := Lib.hid (BlkW.new w 51 (clc c).toArray)
  have HG := Lib.hid hG
  have HC : Hid (∀ w, Calls Tryz.prog 46 #[.agg (clc c).toArray] w fun e w' => e = .returned (.bool true) ∧ Below w.heap.size w w') := Lib.hid (can_is c hc)
  clear h hb hc hG
  show Calls _ _ #[_, .agg (clc c).toArray] _ _
  go_enter Tryz.func16, Tryz.ntmps16
  go_upto_region 1 with fail
  generalize w.alloc (.cells (clc c).toArray 51) = W at HR HX HB ⊢
  have hX := HX.out
  have hzx := BlkW.lt hX
  have hrx : w.heap.size ≠ r := fun e => BlkW.ne_ hX HR.out.at_ (by decide) e
  have HRG := Lib.hid (show W.rangeAt w.heap.size 0 (clc c) from fun j v hv => by rw [Nat.zero_add]; exact (BlkW.cell hX j).trans (by rw [List.getElem?_toArray]; exact hv))
  have hz := BlkW.lt HR.out.at_
  have cb := HR.out.at_.busy
  rw [hbz] at cb
  clear hX HX hbz
  generalize w.heap.size = g at hzx hrx HRG ⊢
  go_wp2_with (refine wpList_load_mid rfl 51 (.tmp 3) rfl g 0 rfl (clc c) _ HRG.out Tryz.underlying51 rfl infoCl ?_)
  refine (HC.out _).mono ?_
  rintro e w1 ⟨rfl, hb1⟩
  have HR1 := Lib.hid (HR.out.below hb1)
  have HB1 := Lib.hid hb1
  have HRG1 := Lib.hid (range_block HRG.out (hb1.block g hzx))
  have hg1 := Nat.lt_of_lt_of_le hzx hb1.size
  have hz1 := BlkW.lt HR1.out.at_
  clear hb1 cb HC HR HRG hzx hz
  have HBG : Hid (Calls Tryz.prog 47 #[.pointer (some ⟨r, 0, none⟩), .agg (clc c).toArray] w1.drew (Leaf w1.drew r nilS nilS nv { m with st := m.st.begin_ c })) := Lib.hid (begin_any HR1.out.at_.drew c)
  go_upto_region 7 with fail
  refine wp_region_held (S := fun w' => w'.rangeAt g 0 (clc c)) (by kernel_rfl) ?_
  have hS : w1.drew.rangeAt g 0 (clc c) := HRG1.out
  show wpAnyH _ _ _ _ _ 5 #[false, false, false, false, false] _ w1.drew
  refine wpAnyH_take (i := 0) (v := .pointer (some ⟨r, 0, none⟩)) rfl (by kernel_rfl) (by kernel_rfl) (by kernel_rfl) (fun _ _ _ h => h) (Or.inl ⟨by rfl, fun w' _ => by go_simp⟩) hS ?_
  simp only [Act.put, List.getElem_toArray, List.getElem_cons_succ, List.getElem_cons_zero, List.setIfInBounds_toArray, List.set_cons_zero, List.set_cons_succ]
  refine wpAnyH_take (i := 1) (v := .pointer (some ⟨r, 0, none⟩)) rfl (by kernel_rfl) (by kernel_rfl) (by kernel_rfl) (fun _ _ _ h => h) (Or.inl ⟨by rfl, fun w' _ => by go_simp⟩) hS ?_
  simp only [Act.put, List.getElem_toArray, List.getElem_cons_succ, List.getElem_cons_zero, List.setIfInBounds_toArray, List.set_cons_zero, List.set_cons_succ]
  refine wpAnyH_take (i := 2) (v := .pointer (some ⟨r, 0, none⟩)) rfl (by kernel_rfl) (by kernel_rfl) (by kernel_rfl) (fun _ _ _ h => h) (Or.inl ⟨by rfl, fun w' _ => by go_simp⟩) hS ?_
  simp only [Act.put, List.getElem_toArray, List.getElem_cons_succ, List.getElem_cons_zero, List.setIfInBounds_toArray, List.set_cons_zero, List.set_cons_succ]
  refine wpAnyH_take (i := 3) (v := .agg (clc c).toArray) rfl (by kernel_rfl) (by kernel_rfl) (by kernel_rfl) (fun _ _ _ h => h) (yieldsIf_load_mid (by rfl) 51 (.tmp 3) rfl g 0 rfl (clc c) _ (fun w' h => h) Tryz.underlying51 rfl infoCl) hS ?_
  simp only [Act.put, List.getElem_toArray, List.getElem_cons_succ, List.getElem_cons_zero, List.setIfInBounds_toArray, List.set_cons_zero, List.set_cons_succ]
  refine wpAnyH_ready (rs := [4]) (by kernel_rfl) (by simp) ?_
  refine AllReadyH.cons rfl (fun K hK => ?_) AllReadyH.nil
  rw [if_pos (by rfl)]
  go_simp
  refine HBG.out.mono ?_
  rintro e w2 ⟨rfl, h1, h2⟩
  refine hK.out _ _ (range_block hS (h2.out.block g hg1 hrx)) (fun _ => ?_)
  refine wpAnyH_done (by kernel_rfl) ?_ _
  clear hK K
  have HP2 := Lib.hid (HR1.out.only (m' := { m with st := m.st.begin_ c }) h1.out (Only.drew.trans h2.out) (.inr ⟨rfl, rfl⟩) (.inr ⟨rfl, rfl⟩) rfl)
  have HO2 := Lib.hid (Only.drew.trans h2.out)
  have HGO : Hid (Calls Tryz.prog 48 #[.pointer (some ⟨r, 0, none⟩), .agg #[.int .i64 0, .int .i64 0, .int .i64 0, .int .i64 0, .bool false, .bool false]] w2 (RPost w2 B r K0 m')) := Lib.hid (HG.out w2 HP2.out)
  clear h1 h2 HBG HG hS HRG1
  go_wp2_with fail
  refine HGO.out.mono ?_
  rintro e w3 ⟨rfl, h3⟩
  go_wp2
  go_ret
  exact ⟨rfl, Lib.hid (RStep.below HB.out (RStep.below HB1.out (RStep.trans (K' := K0) ⟨HO2.out.os, HO2.out.tape, HO2.out.output, HO2.out.size, fun j hj hn => HO2.out.block j hj (fun e => hn (by subst e; exact HR1.out.kr))⟩ (fun _ e => .inl e) h3.out)))⟩
set_option maxRecDepth 100000 in
set_option maxHeartbeats 1000000 in
theorem Took_is (h : RiteP w B r sv fv nv m K) (hbz : m.st.busy = true) (x : Wd × Bool) (hG : ∀ W, RiteP W B r sv fv nv m K → Calls Tryz.prog 48 #[.pointer (some ⟨r, 0, none⟩), rpv x] W (RPost W B r K m')) :
    Calls Tryz.prog 26 #[.pointer (some ⟨r, 0, none⟩), rpv x] w (EPost w B r K m') := by
  have hb := below_alloc (Below.refl w.heap.size w) (.cells #[.int .i64 x.1.slot, .int .i64 x.1.gen, .int .i64 x.1.tag, .int .i64 x.1.num, .bool x.1.mark, .bool x.2] 63)
  have HR := Lib.hid (h.below hb)
  have HB := Lib.hid hb
  have HX := Lib.hid (box_rep w x)
  have HG := Lib.hid (hG _ HR.out)
  unfold rpv at HG
  clear h hb hG
  unfold rpv
  go_enter Tryz.func26, Tryz.ntmps26
  go_upto_region 1 with fail
  generalize w.alloc (.cells #[.int .i64 x.1.slot, .int .i64 x.1.gen, .int .i64 x.1.tag, .int .i64 x.1.num, .bool x.1.mark, .bool x.2] 63) = W at HR HX HB HG ⊢
  have hX := HX.out
  have hzx := BlkW.lt hX
  obtain ⟨b0, b1, b2, b3, b4, b5⟩ := rep6 hX
  have hz := BlkW.lt HR.out.at_
  have cb := HR.out.at_.busy
  rw [hbz] at cb
  clear hX HX hbz
  go_wp2_with fail
  refine HG.out.mono ?_
  rintro e w3 ⟨rfl, h3⟩
  go_wp2
  go_ret
  exact ⟨rfl, Lib.hid (RStep.below HB.out h3.out)⟩
theorem Busy_is (h : RtAt w r sv fv nv m) : Calls Tryz.prog 15 #[.pointer (some ⟨r, 0, none⟩)] w fun e w' => e = .returned (.bool m.st.busy) ∧ w = w' := by
  have cb := h.busy
  have hz := BlkW.lt h
  clear h
  go_enter Tryz.func15, Tryz.ntmps15
  go_wp2
  go_ret
  exact ⟨rfl, rfl⟩
set_option maxRecDepth 100000 in
set_option maxHeartbeats 1000000 in
theorem Reply_is (h : RtAt w r sv fv nv m) : Calls Tryz.prog 36 #[.pointer (some ⟨r, 0, none⟩)] w fun e w' => e = .returned (rpv m.st.last) ∧ Below w.heap.size w w' := by
  have hh := h.range 0 (rpc m.st.last) (by kernel_rfl)
  have c0 := hh 0 _ rfl
  have c1 := hh 1 _ rfl
  have c2 := hh 2 _ rfl
  have c3 := hh 3 _ rfl
  have c4 := hh 4 _ rfl
  have c5 := hh 5 _ rfl
  have hz := BlkW.lt h
  clear hh h
  unfold rpv
  go_enter Tryz.func36, Tryz.ntmps36
  go_wp2
  exact bodyPost_ret (v := rpv m.st.last) (by simp [rpv, results, Tryz.results36, go_sem]) rfl ⟨rfl, below_alloc (Below.refl _ _) _⟩
set_option maxRecDepth 100000 in
set_option maxHeartbeats 1000000 in
theorem Next_busy (h : RtAt w r sv fv nv m) (hb : m.st.busy = true) : Calls Tryz.prog 25 #[.pointer (some ⟨r, 0, none⟩)] w fun e w' => e = .returned (.tuple #[aav m.st.acc, .bool true]) ∧ Below w.heap.size w w' := by
  have hh := h.range 26 (aac m.st.acc) (by kernel_rfl)
  have c0 := hh 0 _ rfl
  have c1 := hh 1 _ rfl
  have c2 := hh 2 _ rfl
  have c3 := hh 3 _ rfl
  have c4 := hh 4 _ rfl
  have c5 := hh 5 _ rfl
  have c6 := hh 6 _ rfl
  have c7 := hh 7 _ rfl
  have c8 := hh 8 _ rfl
  have c9 := hh 9 _ rfl
  have c10 := hh 10 _ rfl
  have c11 := hh 11 _ rfl
  have c12 := hh 12 _ rfl
  have c13 := hh 13 _ rfl
  have cb := h.busy
  rw [hb] at cb
  have hz := BlkW.lt h
  clear hh h hb
  unfold aav
  go_enter Tryz.func25, Tryz.ntmps25
  go_wp2
  exact bodyPost_ret (v := .tuple #[aav m.st.acc, .bool true]) (by simp [aav, results, Tryz.results25, go_sem]) rfl ⟨rfl, below_alloc (Below.refl _ _) _⟩
end
end Go.Proofs.YtjilhncnbkaebaaGreatDoor
