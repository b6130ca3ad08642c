/- rite: goOn; the exported calls. A template (made by gen_XRo.py). -/
import Derived.Test.YtjilhncnbkaebaaGreatDoorRn
namespace Go.Proofs.YtjilhncnbkaebaaGreatDoor
open Go.RowKit Go.Extern.Stop Go.Stop Go.Extern Go.Sort
section
variable {w w' : World} {B r : Nat} {sv fv nv : Value} {m m' : Rt} {K : Nat → Prop}
/-- What a call of the rite's leaves, wherever it lies. -/
def Goes (F : Nat) (args : Array Value) (B r : Nat) (sv fv nv : Value) (m m' : Rt) (K : Nat → Prop) : Prop := ∀ W, RiteP W B r sv fv nv m K → Calls Tryz.prog F (#[.pointer (some ⟨r, 0, none⟩)] ++ args) W (RPost W B r K m')
set_option maxRecDepth 100000 in
set_option maxHeartbeats 1000000 in
theorem goOn_enter (h : RiteP w B r sv fv nv m K) (x : Wd × Bool) (hk : m.st.call.kind = 1) (hC : Goes 74 #[rpv x] B r sv fv nv m m' K) :
    Calls Tryz.prog 48 #[.pointer (some ⟨r, 0, none⟩), rpv x] w (RPost w B r K m') := by
  have hb := below_alloc (Below.refl w.heap.size w) (.cells #[.int .i64 x.1.slot, .int .i64 x.1.gen, .int .i64 x.1.tag, .int .i64 x.1.num, .bool x.1.mark, .bool x.2] 63)
  have HR := Lib.hid (h.below hb)
  have HB := Lib.hid hb
  have HC := Lib.hid (hC _ HR.out)
  have HX := Lib.hid (box_rep w x)
  clear h hC hb
  unfold rpv
  all_goals
    go_enter Tryz.func48, Tryz.ntmps48
    go_upto_region 1 with fail
    generalize w.alloc (.cells #[.int .i64 x.1.slot, .int .i64 x.1.gen, .int .i64 x.1.tag, .int .i64 x.1.num, .bool x.1.mark, .bool x.2] 63) = W at HR HC HX HB ⊢
    have hX := HX.out
    have hzx := BlkW.lt hX
    have hrx : w.heap.size ≠ r := fun e => BlkW.ne_ hX HR.out.at_ (by decide) e
    obtain ⟨b0, b1, b2, b3, b4, b5⟩ := rep6 hX
    have hz := BlkW.lt HR.out.at_
    have ck := HR.out.at_.kind
    rw [hk] at ck
    clear hX HX
    go_wp2_with fail
    refine HC.out.mono ?_
    rintro e w1 ⟨rfl, h1⟩
    go_wp2
    first
      | go_end0
      | refine bodyPost_ret (results_none rfl _ _ _) rfl ?_
    exact ⟨rfl, Lib.hid (RStep.below HB.out h1.out)⟩
set_option maxRecDepth 100000 in
set_option maxHeartbeats 1000000 in
theorem goOn_leave (h : RiteP w B r sv fv nv m K) (x : Wd × Bool) (hk : m.st.call.kind = 2) (hC : Goes 75 #[] B r sv fv nv m m' K) :
    Calls Tryz.prog 48 #[.pointer (some ⟨r, 0, none⟩), rpv x] w (RPost w B r K m') := by
  have hb := below_alloc (Below.refl w.heap.size w) (.cells #[.int .i64 x.1.slot, .int .i64 x.1.gen, .int .i64 x.1.tag, .int .i64 x.1.num, .bool x.1.mark, .bool x.2] 63)
  have HR := Lib.hid (h.below hb)
  have HB := Lib.hid hb
  have HC := Lib.hid (hC _ HR.out)
  have HX := Lib.hid (box_rep w x)
  clear h hC hb
  unfold rpv
  all_goals
    go_enter Tryz.func48, Tryz.ntmps48
    go_upto_region 1 with fail
    generalize w.alloc (.cells #[.int .i64 x.1.slot, .int .i64 x.1.gen, .int .i64 x.1.tag, .int .i64 x.1.num, .bool x.1.mark, .bool x.2] 63) = W at HR HC HX HB ⊢
    have hX := HX.out
    have hzx := BlkW.lt hX
    have hrx : w.heap.size ≠ r := fun e => BlkW.ne_ hX HR.out.at_ (by decide) e
    obtain ⟨b0, b1, b2, b3, b4, b5⟩ := rep6 hX
    have hz := BlkW.lt HR.out.at_
    have ck := HR.out.at_.kind
    rw [hk] at ck
    clear hX HX
    go_wp2_with fail
    refine HC.out.mono ?_
    rintro e w1 ⟨rfl, h1⟩
    go_wp2
    first
      | go_end0
      | refine bodyPost_ret (results_none rfl _ _ _) rfl ?_
    exact ⟨rfl, Lib.hid (RStep.below HB.out h1.out)⟩
set_option maxRecDepth 100000 in
set_option maxHeartbeats 1000000 in
theorem goOn_touch (h : RiteP w B r sv fv nv m K) (x : Wd × Bool) (hk : m.st.call.kind = 3 ∨ m.st.call.kind = 4 ∨ m.st.call.kind = 5) (hC : Goes 76 #[rpv x] B r sv fv nv m m' K) :
    Calls Tryz.prog 48 #[.pointer (some ⟨r, 0, none⟩), rpv x] w (RPost w B r K m') := by
  have hb := below_alloc (Below.refl w.heap.size w) (.cells #[.int .i64 x.1.slot, .int .i64 x.1.gen, .int .i64 x.1.tag, .int .i64 x.1.num, .bool x.1.mark, .bool x.2] 63)
  have HR := Lib.hid (h.below hb)
  have HB := Lib.hid hb
  have HC := Lib.hid (hC _ HR.out)
  have HX := Lib.hid (box_rep w x)
  clear h hC hb
  unfold rpv
  rcases hk with hk | hk | hk
  all_goals
    go_enter Tryz.func48, Tryz.ntmps48
    go_upto_region 1 with fail
    generalize w.alloc (.cells #[.int .i64 x.1.slot, .int .i64 x.1.gen, .int .i64 x.1.tag, .int .i64 x.1.num, .bool x.1.mark, .bool x.2] 63) = W at HR HC HX HB ⊢
    have hX := HX.out
    have hzx := BlkW.lt hX
    have hrx : w.heap.size ≠ r := fun e => BlkW.ne_ hX HR.out.at_ (by decide) e
    obtain ⟨b0, b1, b2, b3, b4, b5⟩ := rep6 hX
    have hz := BlkW.lt HR.out.at_
    have ck := HR.out.at_.kind
    rw [hk] at ck
    clear hX HX
    go_wp2_with fail
    refine HC.out.mono ?_
    rintro e w1 ⟨rfl, h1⟩
    go_wp2
    first
      | go_end0
      | refine bodyPost_ret (results_none rfl _ _ _) rfl ?_
    exact ⟨rfl, Lib.hid (RStep.below HB.out h1.out)⟩
set_option maxRecDepth 100000 in
set_option maxHeartbeats 1000000 in
theorem goOn_protect (h : RiteP w B r sv fv nv m K) (x : Wd × Bool) (hk : m.st.call.kind = 6) (hC : Goes 77 #[rpv x] B r sv fv nv m m' K) :
    Calls Tryz.prog 48 #[.pointer (some ⟨r, 0, none⟩), rpv x] w (RPost w B r K m') := by
  have hb := below_alloc (Below.refl w.heap.size w) (.cells #[.int .i64 x.1.slot, .int .i64 x.1.gen, .int .i64 x.1.tag, .int .i64 x.1.num, .bool x.1.mark, .bool x.2] 63)
  have HR := Lib.hid (h.below hb)
  have HB := Lib.hid hb
  have HC := Lib.hid (hC _ HR.out)
  have HX := Lib.hid (box_rep w x)
  clear h hC hb
  unfold rpv
  all_goals
    go_enter Tryz.func48, Tryz.ntmps48
    go_upto_region 1 with fail
    generalize w.alloc (.cells #[.int .i64 x.1.slot, .int .i64 x.1.gen, .int .i64 x.1.tag, .int .i64 x.1.num, .bool x.1.mark, .bool x.2] 63) = W at HR HC HX HB ⊢
    have hX := HX.out
    have hzx := BlkW.lt hX
    have hrx : w.heap.size ≠ r := fun e => BlkW.ne_ hX HR.out.at_ (by decide) e
    obtain ⟨b0, b1, b2, b3, b4, b5⟩ := rep6 hX
    have hz := BlkW.lt HR.out.at_
    have ck := HR.out.at_.kind
    rw [hk] at ck
    clear hX HX
    go_wp2_with fail
    refine HC.out.mono ?_
    rintro e w1 ⟨rfl, h1⟩
    go_wp2
    first
      | go_end0
      | refine bodyPost_ret (results_none rfl _ _ _) rfl ?_
    exact ⟨rfl, Lib.hid (RStep.below HB.out h1.out)⟩
set_option maxRecDepth 100000 in
set_option maxHeartbeats 1000000 in
theorem goOn_alloc (h : RiteP w B r sv fv nv m K) (x : Wd × Bool) (hk : m.st.call.kind = 8) (hC : Goes 79 #[rpv x] B r sv fv nv m m' K) :
    Calls Tryz.prog 48 #[.pointer (some ⟨r, 0, none⟩), rpv x] w (RPost w B r K m') := by
  have hb := below_alloc (Below.refl w.heap.size w) (.cells #[.int .i64 x.1.slot, .int .i64 x.1.gen, .int .i64 x.1.tag, .int .i64 x.1.num, .bool x.1.mark, .bool x.2] 63)
  have HR := Lib.hid (h.below hb)
  have HB := Lib.hid hb
  have HC := Lib.hid (hC _ HR.out)
  have HX := Lib.hid (box_rep w x)
  clear h hC hb
  unfold rpv
  all_goals
    go_enter Tryz.func48, Tryz.ntmps48
    go_upto_region 1 with fail
    generalize w.alloc (.cells #[.int .i64 x.1.slot, .int .i64 x.1.gen, .int .i64 x.1.tag, .int .i64 x.1.num, .bool x.1.mark, .bool x.2] 63) = W at HR HC HX HB ⊢
    have hX := HX.out
    have hzx := BlkW.lt hX
    have hrx : w.heap.size ≠ r := fun e => BlkW.ne_ hX HR.out.at_ (by decide) e
    obtain ⟨b0, b1, b2, b3, b4, b5⟩ := rep6 hX
    have hz := BlkW.lt HR.out.at_
    have ck := HR.out.at_.kind
    rw [hk] at ck
    clear hX HX
    go_wp2_with fail
    refine HC.out.mono ?_
    rintro e w1 ⟨rfl, h1⟩
    go_wp2
    first
      | go_end0
      | refine bodyPost_ret (results_none rfl _ _ _) rfl ?_
    exact ⟨rfl, Lib.hid (RStep.below HB.out h1.out)⟩
set_option maxRecDepth 100000 in
set_option maxHeartbeats 1000000 in
theorem goOn_drop (h : RiteP w B r sv fv nv m K) (x : Wd × Bool) (hk : m.st.call.kind = 9) (hC : Goes 80 #[] B r sv fv nv m m' K) :
    Calls Tryz.prog 48 #[.pointer (some ⟨r, 0, none⟩), rpv x] w (RPost w B r K m') := by
  have hb := below_alloc (Below.refl w.heap.size w) (.cells #[.int .i64 x.1.slot, .int .i64 x.1.gen, .int .i64 x.1.tag, .int .i64 x.1.num, .bool x.1.mark, .bool x.2] 63)
  have HR := Lib.hid (h.below hb)
  have HB := Lib.hid hb
  have HC := Lib.hid (hC _ HR.out)
  have HX := Lib.hid (box_rep w x)
  clear h hC hb
  unfold rpv
  all_goals
    go_enter Tryz.func48, Tryz.ntmps48
    go_upto_region 1 with fail
    generalize w.alloc (.cells #[.int .i64 x.1.slot, .int .i64 x.1.gen, .int .i64 x.1.tag, .int .i64 x.1.num, .bool x.1.mark, .bool x.2] 63) = W at HR HC HX HB ⊢
    have hX := HX.out
    have hzx := BlkW.lt hX
    have hrx : w.heap.size ≠ r := fun e => BlkW.ne_ hX HR.out.at_ (by decide) e
    obtain ⟨b0, b1, b2, b3, b4, b5⟩ := rep6 hX
    have hz := BlkW.lt HR.out.at_
    have ck := HR.out.at_.kind
    rw [hk] at ck
    clear hX HX
    go_wp2_with fail
    refine HC.out.mono ?_
    rintro e w1 ⟨rfl, h1⟩
    go_wp2
    first
      | go_end0
      | refine bodyPost_ret (results_none rfl _ _ _) rfl ?_
    exact ⟨rfl, Lib.hid (RStep.below HB.out h1.out)⟩
set_option maxRecDepth 100000 in
set_option maxHeartbeats 1000000 in
theorem goOn_retire (h : RiteP w B r sv fv nv m K) (x : Wd × Bool) (hk : m.st.call.kind = 10) (hC : Goes 81 #[rpv x] B r sv fv nv m m' K) :
    Calls Tryz.prog 48 #[.pointer (some ⟨r, 0, none⟩), rpv x] w (RPost w B r K m') := by
  have hb := below_alloc (Below.refl w.heap.size w) (.cells #[.int .i64 x.1.slot, .int .i64 x.1.gen, .int .i64 x.1.tag, .int .i64 x.1.num, .bool x.1.mark, .bool x.2] 63)
  have HR := Lib.hid (h.below hb)
  have HB := Lib.hid hb
  have HC := Lib.hid (hC _ HR.out)
  have HX := Lib.hid (box_rep w x)
  clear h hC hb
  unfold rpv
  all_goals
    go_enter Tryz.func48, Tryz.ntmps48
    go_upto_region 1 with fail
    generalize w.alloc (.cells #[.int .i64 x.1.slot, .int .i64 x.1.gen, .int .i64 x.1.tag, .int .i64 x.1.num, .bool x.1.mark, .bool x.2] 63) = W at HR HC HX HB ⊢
    have hX := HX.out
    have hzx := BlkW.lt hX
    have hrx : w.heap.size ≠ r := fun e => BlkW.ne_ hX HR.out.at_ (by decide) e
    obtain ⟨b0, b1, b2, b3, b4, b5⟩ := rep6 hX
    have hz := BlkW.lt HR.out.at_
    have ck := HR.out.at_.kind
    rw [hk] at ck
    clear hX HX
    go_wp2_with fail
    refine HC.out.mono ?_
    rintro e w1 ⟨rfl, h1⟩
    go_wp2
    first
      | go_end0
      | refine bodyPost_ret (results_none rfl _ _ _) rfl ?_
    exact ⟨rfl, Lib.hid (RStep.below HB.out h1.out)⟩
set_option maxRecDepth 100000 in
set_option maxHeartbeats 1000000 in
theorem goOn_scan (h : RiteP w B r sv fv nv m K) (x : Wd × Bool) (hk : m.st.call.kind = 11) (hC : Goes 82 #[rpv x] B r sv fv nv m m' K) :
    Calls Tryz.prog 48 #[.pointer (some ⟨r, 0, none⟩), rpv x] w (RPost w B r K m') := by
  have hb := below_alloc (Below.refl w.heap.size w) (.cells #[.int .i64 x.1.slot, .int .i64 x.1.gen, .int .i64 x.1.tag, .int .i64 x.1.num, .bool x.1.mark, .bool x.2] 63)
  have HR := Lib.hid (h.below hb)
  have HB := Lib.hid hb
  have HC := Lib.hid (hC _ HR.out)
  have HX := Lib.hid (box_rep w x)
  clear h hC hb
  unfold rpv
  all_goals
    go_enter Tryz.func48, Tryz.ntmps48
    go_upto_region 1 with fail
    generalize w.alloc (.cells #[.int .i64 x.1.slot, .int .i64 x.1.gen, .int .i64 x.1.tag, .int .i64 x.1.num, .bool x.1.mark, .bool x.2] 63) = W at HR HC HX HB ⊢
    have hX := HX.out
    have hzx := BlkW.lt hX
    have hrx : w.heap.size ≠ r := fun e => BlkW.ne_ hX HR.out.at_ (by decide) e
    obtain ⟨b0, b1, b2, b3, b4, b5⟩ := rep6 hX
    have hz := BlkW.lt HR.out.at_
    have ck := HR.out.at_.kind
    rw [hk] at ck
    clear hX HX
    go_wp2_with fail
    refine HC.out.mono ?_
    rintro e w1 ⟨rfl, h1⟩
    go_wp2
    first
      | go_end0
      | refine bodyPost_ret (results_none rfl _ _ _) rfl ?_
    exact ⟨rfl, Lib.hid (RStep.below HB.out h1.out)⟩
theorem within_is (n a b : Int) (w : World) : Calls Tryz.prog 53 #[.int .i64 n, .int .i64 a, .int .i64 b] w fun e w' => e = .returned (.bool (decide (a ≤ n) && decide (n ≤ b))) ∧ w = w' := by
  by_cases h1 : a ≤ n
  · go_enter Tryz.func53, Tryz.ntmps53
    go_wp2
    go_ret
    refine ⟨?_, rfl⟩
    simp [h1]
  · go_enter Tryz.func53, Tryz.ntmps53
    go_wp2
    go_ret
    refine ⟨?_, rfl⟩
    rw [decide_eq_false (Int.not_le.2 h1), Bool.false_and]
    rfl
end
end Go.Proofs.YtjilhncnbkaebaaGreatDoor
