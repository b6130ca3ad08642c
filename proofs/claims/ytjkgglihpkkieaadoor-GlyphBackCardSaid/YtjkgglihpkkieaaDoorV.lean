/- Unpack: of a text that is a word's, and of one that is none's. -/
import Derived.Test.YtjkgglihpkkieaaDoorU
namespace Go.Proofs.YtjkgglihpkkieaaDoor
open Go.RowKit Go.Extern.Stop Go.Stop Go.Extern

def UnpYes (w : World) (d : Wd) (e : Ending) (w' : World) : Prop :=
  e = .returned (.tuple #[.agg #[.int .i64 d.slot, .int .i64 d.gen, .int .i64 d.tag, .int .i64 d.num, .bool d.mark], .nilIface]) ∧ Below w.heap.size w w'
def UnpNo (w : World) (b : Addr) (e : Ending) (w' : World) : Prop :=
  ∃ u, e = .returned (.tuple #[.agg #[.int .i64 0, .int .i64 0, .int .i64 0, .int .i64 0, .bool false], u]) ∧ Ch w' (.iface 117 (.pointer (some b))) [2] u ∧ Below w.heap.size w w'

theorem resBlk {w w1 : World} (hb : Below (w.alloc (.cells #[.int .i64 0, .int .i64 0, .int .i64 0, .int .i64 0, .bool false] 23)).heap.size (w.alloc (.cells #[.int .i64 0, .int .i64 0, .int .i64 0, .int .i64 0, .bool false] 23)) w1) :
    BlkW w1 w.heap.size 23 #[.int .i64 0, .int .i64 0, .int .i64 0, .int .i64 0, .bool false] := (BlkW.new w 23 _).below hb

set_option maxRecDepth 100000 in
set_option maxHeartbeats 1000000 in
theorem Unpack_yes (d : Wd) (hd : d.Good) (a b : Addr) (w : World) (L : Env w a b) : Calls Tryd.prog 11 #[.string (txtB d)] w (UnpYes w d) := by
  have HL := Lib.hid L
  have HD := Lib.hid hd
  have PG := Lib.hid (Pack_good d hd a b)
  clear L hd
  go_enter Tryd.func11, Tryd.ntmps11
  go_wp2_with fail
  refine (read_any (txtB d) a b _ (HL.out.keep (below_alloc (Below.refl _ _) _))).mono ?_
  rintro e w1 ⟨c, r, rfl, hc, hb⟩
  obtain ⟨rfl, rfl⟩ := hc d HD.out rfl
  have HB := Lib.hid (below_trans (below_alloc (Below.refl _ _) _) hb)
  have HR := Lib.hid (resBlk hb)
  have hz := HR.out.lt
  clear hc hb
  go_wp2_with fail
  refine (PG.out _ (HL.out.keep (below_alloc HB.out _))).mono ?_
  rintro e w2 ⟨rfl, hb⟩
  have HB2 := Lib.hid (below_trans (below_alloc HB.out _) hb)
  have HR2 := Lib.hid ((HR.out.alloc _).below hb)
  have HW2 := Lib.hid ((BlkW.new w1 23 _).below hb)
  clear hb
  have r0 := HR2.out.cell 0
  have r1 := HR2.out.cell 1
  have r2 := HR2.out.cell 2
  have r3 := HR2.out.cell 3
  have r4 := HR2.out.cell 4
  have v0 := HW2.out.cell 0
  have v1 := HW2.out.cell 1
  have v2 := HW2.out.cell 2
  have v3 := HW2.out.cell 3
  have v4 := HW2.out.cell 4
  simp only [List.getElem?_toArray, List.getElem?_cons_succ, List.getElem?_cons_zero] at r0 r1 r2 r3 r4 v0 v1 v2 v3 v4
  have f0 := HR2.out.frozen 0
  have f1 := HR2.out.frozen 1
  have f2 := HR2.out.frozen 2
  have f3 := HR2.out.frozen 3
  have f4 := HR2.out.frozen 4
  have k1 : ((txtB c).toList != (txtB c).toList) = false := by simp
  have k2 : ((txtB c).toList == (txtB c).toList) = true := by simp
  go_wp2
  refine bodyPost_ret (v := .tuple #[.agg #[.int .i64 c.slot, .int .i64 c.gen, .int .i64 c.tag, .int .i64 c.num, .bool c.mark], .nilIface]) (by simp [results, Tryd.results11, go_sem, r0, r1, r2, r3, r4]) rfl ⟨rfl, ?_⟩
  have hb := HB2.out
  clear HL HD PG HB HR HB2 HR2 HW2
  repeat (first | with_reducible exact hb | with_reducible refine below_set ?_ _ _ _ (Nat.le_refl _))

theorem ch_of_blk {w : World} {B : Nat} {p : Int} {a : Addr} (h : BlkW w B 60 #[.int .i64 p, .iface 117 (.pointer (some a))]) : Ch w (.iface 117 (.pointer (some a))) [p] (.iface 58 (.pointer (some ⟨B, 0, none⟩))) :=
  .woe (T := 60) h.lt (h.cell 0) (h.cell 1) h (.base _)

set_option maxRecDepth 100000 in
set_option maxHeartbeats 1000000 in
theorem Unpack_no (s : ByteArray) (hs : ∀ d : Wd, d.Good → txtB d ≠ s) (a b : Addr) (w : World) (L : Env w a b) : Calls Tryd.prog 11 #[.string s] w (UnpNo w b) := by
  have HL := Lib.hid L
  have HD := Lib.hid hs
  clear L hs
  go_enter Tryd.func11, Tryd.ntmps11
  go_wp2_with fail
  refine (read_any s a b _ (HL.out.keep (below_alloc (Below.refl _ _) _))).mono ?_
  rintro e w1 ⟨c, r, rfl, -, hb⟩
  have HB := Lib.hid (below_trans (below_alloc (Below.refl _ _) _) hb)
  have HR := Lib.hid (resBlk hb)
  have hz := HR.out.lt
  clear hb
  have lw := (HL.out.keep (below_alloc HB.out (.cells #[.int .i64 c.slot, .int .i64 c.gen, .int .i64 c.tag, .int .i64 c.num, .bool c.mark] 23))).word
  cases r with
  | false =>
    have HR2 := HR
    have hz' : w.heap.size < w1.heap.size + 1 := by omega
    have r0 := HR2.out.cell 0
    have r1 := HR2.out.cell 1
    have r2 := HR2.out.cell 2
    have r3 := HR2.out.cell 3
    have r4 := HR2.out.cell 4
    simp only [List.getElem?_toArray, List.getElem?_cons_succ, List.getElem?_cons_zero] at r0 r1 r2 r3 r4
    have f0 := HR2.out.frozen 0
    have f1 := HR2.out.frozen 1
    have f2 := HR2.out.frozen 2
    have f3 := HR2.out.frozen 3
    have f4 := HR2.out.frozen 4
    go_wp2_with fail
    refine (At_some 2 117 (.pointer (some b)) _).mono ?_
    rintro e w2 ⟨rfl, rfl⟩
    go_wp2
    refine bodyPost_ret (v := .tuple #[.agg #[.int .i64 0, .int .i64 0, .int .i64 0, .int .i64 0, .bool false], .iface 58 (.pointer (some ⟨w1.heap.size + 1, 0, none⟩))]) (by simp [results, Tryd.results11, go_sem, r0, r1, r2, r3, r4, hz, hz']) rfl ⟨_, rfl, ch_of_blk ?_, ?_⟩
    · have := BlkW.new (((((w1.setCell ⟨w.heap.size, 0, none⟩ (.int .i64 0)).setCell ⟨w.heap.size, 1, none⟩ (.int .i64 0)).setCell ⟨w.heap.size, 2, none⟩ (.int .i64 0)).setCell ⟨w.heap.size, 3, none⟩ (.int .i64 0)).setCell ⟨w.heap.size, 4, none⟩ (.bool false) |>.alloc (.cells #[.int .i64 c.slot, .int .i64 c.gen, .int .i64 c.tag, .int .i64 c.num, .bool c.mark] 23)) 60 #[.int .i64 2, .iface 117 (.pointer (some b))]
      simp only [World.size_alloc, World.size_setCell] at this
      exact this
    · have hb := HB.out
      clear HL HD HB HR HR2
      repeat (first | with_reducible exact hb | with_reducible refine below_set ?_ _ _ _ (Nat.le_refl _) | with_reducible refine below_alloc ?_ _)
  | true =>
    cases hg : goodB c.slot c.gen c.tag c.num with
    | false =>
      have PB := Lib.hid (Pack_bad c.slot c.gen c.tag c.num c.mark hg a b)
      clear hg
      go_wp2_with fail
      refine (PB.out _ (HL.out.keep (below_alloc HB.out _))).mono ?_
      rintro e w2 ⟨u, rfl, hc, hb⟩
      obtain ⟨T, x, rfl⟩ := hc.shape
      have HB2 := Lib.hid (below_trans (below_alloc HB.out _) hb)
      have HR2 := Lib.hid ((HR.out.alloc _).below hb)
      have lw2 := (HL.out.keep HB2.out).word
      have hz2 := HR2.out.lt
      clear hb hc
      have r0 := HR2.out.cell 0
      have r1 := HR2.out.cell 1
      have r2 := HR2.out.cell 2
      have r3 := HR2.out.cell 3
      have r4 := HR2.out.cell 4
      simp only [List.getElem?_toArray, List.getElem?_cons_succ, List.getElem?_cons_zero] at r0 r1 r2 r3 r4
      have f0 := HR2.out.frozen 0
      have f1 := HR2.out.frozen 1
      have f2 := HR2.out.frozen 2
      have f3 := HR2.out.frozen 3
      have f4 := HR2.out.frozen 4
      go_wp2_with fail
      refine (At_some 2 117 (.pointer (some b)) _).mono ?_
      rintro e w3 ⟨rfl, rfl⟩
      go_wp2
      refine bodyPost_ret (v := .tuple #[.agg #[.int .i64 0, .int .i64 0, .int .i64 0, .int .i64 0, .bool false], .iface 58 (.pointer (some ⟨w2.heap.size, 0, none⟩))]) (by simp [results, Tryd.results11, go_sem, r0, r1, r2, r3, r4, hz2]) rfl ⟨_, rfl, ch_of_blk ?_, ?_⟩
      · have := BlkW.new (((((w2.setCell ⟨w.heap.size, 0, none⟩ (.int .i64 0)).setCell ⟨w.heap.size, 1, none⟩ (.int .i64 0)).setCell ⟨w.heap.size, 2, none⟩ (.int .i64 0)).setCell ⟨w.heap.size, 3, none⟩ (.int .i64 0)).setCell ⟨w.heap.size, 4, none⟩ (.bool false)) 60 #[.int .i64 2, .iface 117 (.pointer (some b))]
        simp only [World.size_setCell] at this
        exact this
      · have hb := HB2.out
        clear HL HD HB HR HR2 HB2 PB
        repeat (first | with_reducible exact hb | with_reducible refine below_set ?_ _ _ _ (Nat.le_refl _) | with_reducible refine below_alloc ?_ _)
    | true =>
      have gd : c.Good := by rw [goodB_iff] at hg; exact of_decide_eq_true hg
      have PG := Lib.hid (Pack_good c gd a b)
      have hne := HD.out c gd
      clear hg gd
      have k1 : ((txtB c).toList == s.toList) = false := by
        rw [beq_eq_false_iff_ne, ByteArray.toList_eq, ByteArray.toList_eq]
        exact fun e => hne (ba_ext e)
      have k2 : ((txtB c).toList != s.toList) = true := by rw [bne, k1]; rfl
      clear hne
      go_wp2_with fail
      refine (PG.out _ (HL.out.keep (below_alloc HB.out _))).mono ?_
      rintro e w2 ⟨rfl, hb⟩
      have HB2 := Lib.hid (below_trans (below_alloc HB.out _) hb)
      have HR2 := Lib.hid ((HR.out.alloc _).below hb)
      have lw2 := (HL.out.keep HB2.out).word
      have hz2 := HR2.out.lt
      clear hb
      have r0 := HR2.out.cell 0
      have r1 := HR2.out.cell 1
      have r2 := HR2.out.cell 2
      have r3 := HR2.out.cell 3
      have r4 := HR2.out.cell 4
      simp only [List.getElem?_toArray, List.getElem?_cons_succ, List.getElem?_cons_zero] at r0 r1 r2 r3 r4
      have f0 := HR2.out.frozen 0
      have f1 := HR2.out.frozen 1
      have f2 := HR2.out.frozen 2
      have f3 := HR2.out.frozen 3
      have f4 := HR2.out.frozen 4
      go_wp2_with fail
      refine (At_some 2 117 (.pointer (some b)) _).mono ?_
      rintro e w3 ⟨rfl, rfl⟩
      go_wp2
      refine bodyPost_ret (v := .tuple #[.agg #[.int .i64 0, .int .i64 0, .int .i64 0, .int .i64 0, .bool false], .iface 58 (.pointer (some ⟨w2.heap.size, 0, none⟩))]) (by simp [results, Tryd.results11, go_sem, r0, r1, r2, r3, r4, hz2]) rfl ⟨_, rfl, ch_of_blk ?_, ?_⟩
      · have := BlkW.new (((((w2.setCell ⟨w.heap.size, 0, none⟩ (.int .i64 0)).setCell ⟨w.heap.size, 1, none⟩ (.int .i64 0)).setCell ⟨w.heap.size, 2, none⟩ (.int .i64 0)).setCell ⟨w.heap.size, 3, none⟩ (.int .i64 0)).setCell ⟨w.heap.size, 4, none⟩ (.bool false)) 60 #[.int .i64 2, .iface 117 (.pointer (some b))]
        simp only [World.size_setCell] at this
        exact this
      · have hb := HB2.out
        clear HL HD HB HR HR2 HB2 PG
        repeat (first | with_reducible exact hb | with_reducible refine below_set ?_ _ _ _ (Nat.le_refl _) | with_reducible refine below_alloc ?_ _)
end Go.Proofs.YtjkgglihpkkieaaDoor
