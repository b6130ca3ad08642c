/- cortege: the reference's Next. A template (made by gen_XCs.py). -/
import Derived.Test.YtihjklimcchkhaaDoorCs
import Derived.Test.YtihjklimcchkhaaDoorCt
namespace Go.Proofs.YtihjklimcchkhaaDoor.Co
open Go.RowKit Go.Extern.Stop Go.Stop Go.Extern Go.Sort
section
variable {w w' : World} {b : Nat} {q : Nat} {u u' : Rf} {c : Ca}
theorem renq_is (h : UAt w b u) (x : Wd × Bool) (hl : u.line = 0 ∨ u.line = 1 ∨ u.line = 2 ∨ u.line = 3 ∨ u.line = 4 ∨ u.line = 5 ∨ u.line = 6 ∨ u.line = 7 ∨ u.line = 8) :
    Calls Tryd.prog 16 #[.pointer (some ⟨b, 0, none⟩), rpv x] w (UPost w b (u.enq x).1 (u.enq x).2) := by
  rcases hl with hl | hl | hl | hl | hl | hl | hl | hl | hl
  · rw [show u.enq x = (u.at_ 1, cAlloc) by unfold Rf.enq; rw [if_pos hl]]
    exact renq_0 h x hl
  · cases hx : x.2 with
    | true =>
      rw [show u.enq x = ({ u with line := 2, node := x.1 }, cStore (fld x.1 1) (nw u.op.val)) by unfold Rf.enq; rw [if_neg (by rw [hl]; decide), if_pos hl, if_pos hx]]
      exact renq_given h x hl hx
    | false =>
      rw [show u.enq x = u.done 4 0 by unfold Rf.enq; rw [if_neg (by rw [hl]; decide), if_pos hl, if_neg (by rw [hx]; decide)]]
      exact renq_full h x hl hx
  · rw [show u.enq x = (u.at_ 3, cProtect (0, 0, 1) 0) by unfold Rf.enq; rw [if_neg (by rw [hl]; decide), if_neg (by rw [hl]; decide), if_neg (by rw [hl]; decide), if_neg (by rw [hl]; decide), if_neg (by rw [hl]; decide), if_neg (by rw [hl]; decide), if_neg (by rw [hl]; decide)]]
    exact renq_2 h x hl
  · rw [show u.enq x = ({ u with line := 4, t := x.1 }, cLoad (fld x.1 2)) by unfold Rf.enq; rw [if_neg (by rw [hl]; decide), if_neg (by rw [hl]; decide), if_pos hl]]
    exact renq_3 h x hl
  · rw [show u.enq x = ({ u with line := 5, n := x.1 }, cLoad (0, 0, 1)) by unfold Rf.enq; rw [if_neg (by rw [hl]; decide), if_neg (by rw [hl]; decide), if_neg (by rw [hl]; decide), if_pos hl]]
    exact renq_4 h x hl
  · rw [show u.enq x = u.link x.1 by unfold Rf.enq; rw [if_neg (by rw [hl]; decide), if_neg (by rw [hl]; decide), if_neg (by rw [hl]; decide), if_neg (by rw [hl]; decide), if_pos hl]]
    by_cases hs : sameW x.1 u.t = false
    · rw [show u.link x.1 = (u.at_ 3, cProtect (0, 0, 1) 0) by unfold Rf.link; rw [if_pos hs]]
      exact renq_other h x hl hs
    · have hs' : sameW x.1 u.t = true := by simpa using hs
      by_cases hn : u.n.slot = 0
      · rw [show u.link x.1 = (u.at_ 7, cSwap (fld u.t 2) u.n u.node) by unfold Rf.link; rw [if_neg hs, if_pos hn]]
        exact renq_last h x hl hs' hn
      · rw [show u.link x.1 = (u.at_ 6, cSwap (0, 0, 1) u.t u.n) by unfold Rf.link; rw [if_neg hs, if_neg hn]]
        exact renq_bring h x hl hs' hn
  · rw [show u.enq x = (u.at_ 3, cProtect (0, 0, 1) 0) by unfold Rf.enq; rw [if_neg (by rw [hl]; decide), if_neg (by rw [hl]; decide), if_neg (by rw [hl]; decide), if_neg (by rw [hl]; decide), if_neg (by rw [hl]; decide), if_neg (by rw [hl]; decide), if_neg (by rw [hl]; decide)]]
    exact renq_6 h x hl
  · cases hx : x.2 with
    | true =>
      rw [show u.enq x = (u.at_ 8, cSwap (0, 0, 1) u.t u.node) by unfold Rf.enq; rw [if_neg (by rw [hl]; decide), if_neg (by rw [hl]; decide), if_neg (by rw [hl]; decide), if_neg (by rw [hl]; decide), if_neg (by rw [hl]; decide), if_pos hl, if_pos hx]]
      exact renq_linked h x hl hx
    | false =>
      rw [show u.enq x = (u.at_ 3, cProtect (0, 0, 1) 0) by unfold Rf.enq; rw [if_neg (by rw [hl]; decide), if_neg (by rw [hl]; decide), if_neg (by rw [hl]; decide), if_neg (by rw [hl]; decide), if_neg (by rw [hl]; decide), if_pos hl, if_neg (by rw [hx]; decide)]]
      exact renq_slow h x hl hx
  · rw [show u.enq x = u.done 1 0 by unfold Rf.enq; rw [if_neg (by rw [hl]; decide), if_neg (by rw [hl]; decide), if_neg (by rw [hl]; decide), if_neg (by rw [hl]; decide), if_neg (by rw [hl]; decide), if_neg (by rw [hl]; decide), if_pos hl]]
    exact renq_8 h x hl
theorem rdeq_is (h : UAt w b u) (x : Wd × Bool) (hl : u.line = 0 ∨ u.line = 1 ∨ u.line = 2 ∨ u.line = 3 ∨ u.line = 4 ∨ u.line = 5 ∨ u.line = 6 ∨ u.line = 7 ∨ u.line = 8) :
    Calls Tryd.prog 17 #[.pointer (some ⟨b, 0, none⟩), rpv x] w (UPost w b (u.deq x).1 (u.deq x).2) := by
  rcases hl with hl | hl | hl | hl | hl | hl | hl | hl | hl
  · rw [show u.deq x = (u.at_ 1, cProtect (0, 0, 0) 0) by unfold Rf.deq; rw [if_neg (by rw [hl]; decide), if_neg (by rw [hl]; decide), if_neg (by rw [hl]; decide), if_neg (by rw [hl]; decide), if_neg (by rw [hl]; decide), if_neg (by rw [hl]; decide), if_neg (by rw [hl]; decide)]]
    exact rdeq_0 h x hl
  · rw [show u.deq x = ({ u with line := 2, h := x.1 }, cLoad (0, 0, 1)) by unfold Rf.deq; rw [if_pos hl]]
    exact rdeq_1 h x hl
  · rw [show u.deq x = ({ u with line := 3, t := x.1 }, cProtect (fld u.h 2) 1) by unfold Rf.deq; rw [if_neg (by rw [hl]; decide), if_pos hl]]
    exact rdeq_2 h x hl
  · rw [show u.deq x = ({ u with line := 4, n := x.1 }, cLoad (0, 0, 0)) by unfold Rf.deq; rw [if_neg (by rw [hl]; decide), if_neg (by rw [hl]; decide), if_pos hl]]
    exact rdeq_3 h x hl
  · rw [show u.deq x = u.take x.1 by unfold Rf.deq; rw [if_neg (by rw [hl]; decide), if_neg (by rw [hl]; decide), if_neg (by rw [hl]; decide), if_pos hl]]
    by_cases hs : sameW x.1 u.h = false
    · rw [show u.take x.1 = (u.at_ 1, cProtect (0, 0, 0) 0) by unfold Rf.take; rw [if_pos hs]]
      exact rdeq_other h x hl hs
    · have hs' : sameW x.1 u.h = true := by simpa using hs
      by_cases hn : u.n.slot = 0
      · rw [show u.take x.1 = u.done 2 0 by unfold Rf.take; rw [if_neg hs, if_pos hn]]
        exact rdeq_none h x hl hs' hn
      · by_cases he : u.h.slot = u.t.slot
        · rw [show u.take x.1 = (u.at_ 5, cSwap (0, 0, 1) u.t u.n) by unfold Rf.take; rw [if_neg hs, if_neg hn, if_pos he]]
          exact rdeq_bring h x hl hs' hn he
        · rw [show u.take x.1 = (u.at_ 6, cLoad (fld u.n 1)) by unfold Rf.take; rw [if_neg hs, if_neg hn, if_neg he]]
          exact rdeq_read h x hl hs' hn he
  · rw [show u.deq x = (u.at_ 1, cProtect (0, 0, 0) 0) by unfold Rf.deq; rw [if_neg (by rw [hl]; decide), if_neg (by rw [hl]; decide), if_neg (by rw [hl]; decide), if_neg (by rw [hl]; decide), if_neg (by rw [hl]; decide), if_neg (by rw [hl]; decide), if_neg (by rw [hl]; decide)]]
    exact rdeq_5 h x hl
  · rw [show u.deq x = ({ u with line := 7, num := x.1.num }, cSwap (0, 0, 0) u.h u.n) by unfold Rf.deq; rw [if_neg (by rw [hl]; decide), if_neg (by rw [hl]; decide), if_neg (by rw [hl]; decide), if_neg (by rw [hl]; decide), if_pos hl]]
    exact rdeq_6 h x hl
  · cases hx : x.2 with
    | true =>
      rw [show u.deq x = (u.at_ 8, cRetire u.h) by unfold Rf.deq; rw [if_neg (by rw [hl]; decide), if_neg (by rw [hl]; decide), if_neg (by rw [hl]; decide), if_neg (by rw [hl]; decide), if_neg (by rw [hl]; decide), if_pos hl, if_pos hx]]
      exact rdeq_swapped h x hl hx
    | false =>
      rw [show u.deq x = (u.at_ 1, cProtect (0, 0, 0) 0) by unfold Rf.deq; rw [if_neg (by rw [hl]; decide), if_neg (by rw [hl]; decide), if_neg (by rw [hl]; decide), if_neg (by rw [hl]; decide), if_neg (by rw [hl]; decide), if_pos hl, if_neg (by rw [hx]; decide)]]
      exact rdeq_slow h x hl hx
  · rw [show u.deq x = u.done 1 u.num by unfold Rf.deq; rw [if_neg (by rw [hl]; decide), if_neg (by rw [hl]; decide), if_neg (by rw [hl]; decide), if_neg (by rw [hl]; decide), if_neg (by rw [hl]; decide), if_neg (by rw [hl]; decide), if_pos hl]]
    exact rdeq_8 h x hl
set_option maxRecDepth 100000 in
set_option maxHeartbeats 1000000 in
theorem rnext_over (h : UAt w b u) (x : Wd × Bool) (hl : u.line = 9) :
    Calls Tryd.prog 9 #[.pointer (some ⟨b, 0, none⟩), rpv x] w (UPost w b (u) (u.fin)) := by
  have hb1 := below_alloc (Below.refl w.heap.size w) (.cells #[.int .i64 x.1.slot, .int .i64 x.1.gen, .int .i64 x.1.tag, .int .i64 x.1.num, .bool x.1.mark, .bool x.2] 44)
  have hb2 := below_alloc hb1 (.cells (cac za).toArray 41)
  have hbx := below_alloc (Below.refl (w.alloc (.cells #[.int .i64 x.1.slot, .int .i64 x.1.gen, .int .i64 x.1.tag, .int .i64 x.1.num, .bool x.1.mark, .bool x.2] 44)).heap.size (w.alloc (.cells #[.int .i64 x.1.slot, .int .i64 x.1.gen, .int .i64 x.1.tag, .int .i64 x.1.num, .bool x.1.mark, .bool x.2] 44))) (.cells (cac za).toArray 41)
  have HX := Lib.hid ((box_rep w x).below hbx)
  have hq := BlkW.new (w.alloc (.cells #[.int .i64 x.1.slot, .int .i64 x.1.gen, .int .i64 x.1.tag, .int .i64 x.1.num, .bool x.1.mark, .bool x.2] 44)) 41 (cac za).toArray
  rw [World.size_alloc] at hq
  have HN := Lib.hid (Ur.mk (h.below hb2) hq (Only.of_below hb2) (Nat.le_succ _))
  clear h hb1 hb2 hbx hq
  unfold rpv
  go_enter Tryd.func9, Tryd.ntmps9
  go_upto_region 1 with fail
  show Code.wp _ _ _ _ ((w.alloc (.cells #[.int .i64 x.1.slot, .int .i64 x.1.gen, .int .i64 x.1.tag, .int .i64 x.1.num, .bool x.1.mark, .bool x.2] 44)).alloc (.cells (cac za).toArray 41))
  generalize (w.alloc (.cells #[.int .i64 x.1.slot, .int .i64 x.1.gen, .int .i64 x.1.tag, .int .i64 x.1.num, .bool x.1.mark, .bool x.2] 44)).alloc (.cells (cac za).toArray 41) = W at HX HN ⊢
  obtain ⟨v, hv⟩ : ∃ v, v = w.heap.size := ⟨_, rfl⟩
  have HNN : Hid (Ur w W b (v + 1) u) := Lib.hid (by rw [hv]; exact HN.out)
  clear HN
  rw [← hv] at HX ⊢
  clear hv
  have HN := HNN
  clear HNN
  have hz := BlkW.lt HN.out.hu
  have c4 := HN.out.hu.line
  rw [hl] at c4
  clear hl
  have HRG := Lib.hid (HN.out.hu.range 26 (cac u.fin) (by kernel_rfl))
  generalize hG : Value.agg (cac u.fin).toArray = G
  have HG := Lib.hid hG
  clear hG
  go_wp2_with (first
    | (refine wpList_load_mid rfl 41 (.tmp 12) rfl b 26 rfl (cac u.fin) _ HRG.out Tryd.underlying41 rfl infoCl ?_; rw [HG.out])
    | (refine wp_store_c HN.out.hq rfl (.tmp 4) (.tmp 13) rfl (by rfl) u.fin (HG.out.symm) ?_; intro W9 k1 k2; have R9 := Lib.hid (HN.out.fin k1 k2); clear k1 k2))
  exact bodyPost_ret (v := cav (u.fin)) (rresults rfl _ (by rfl) (rans_load R9.out.hq)) rfl ⟨rfl, Lib.hid R9.out.hu, Lib.hid R9.out.off⟩
set_option maxRecDepth 100000 in
set_option maxHeartbeats 1000000 in
theorem rnext_enq (h : UAt w b u) (x : Wd × Bool) (hl : ¬ u.line = 9) (hk : u.op.kind = 4) (hC : ∀ W, UAt W b u → Calls Tryd.prog 16 #[.pointer (some ⟨b, 0, none⟩), rpv x] W (UPost W b u' c)) :
    Calls Tryd.prog 9 #[.pointer (some ⟨b, 0, none⟩), rpv x] w (UPost w b (u') (c)) := by
  have HC := Lib.hid hC
  clear hC
  have hb1 := below_alloc (Below.refl w.heap.size w) (.cells #[.int .i64 x.1.slot, .int .i64 x.1.gen, .int .i64 x.1.tag, .int .i64 x.1.num, .bool x.1.mark, .bool x.2] 44)
  have hb2 := below_alloc hb1 (.cells (cac za).toArray 41)
  have hbx := below_alloc (Below.refl (w.alloc (.cells #[.int .i64 x.1.slot, .int .i64 x.1.gen, .int .i64 x.1.tag, .int .i64 x.1.num, .bool x.1.mark, .bool x.2] 44)).heap.size (w.alloc (.cells #[.int .i64 x.1.slot, .int .i64 x.1.gen, .int .i64 x.1.tag, .int .i64 x.1.num, .bool x.1.mark, .bool x.2] 44))) (.cells (cac za).toArray 41)
  have HX := Lib.hid ((box_rep w x).below hbx)
  have hq := BlkW.new (w.alloc (.cells #[.int .i64 x.1.slot, .int .i64 x.1.gen, .int .i64 x.1.tag, .int .i64 x.1.num, .bool x.1.mark, .bool x.2] 44)) 41 (cac za).toArray
  rw [World.size_alloc] at hq
  have HN := Lib.hid (Ur.mk (h.below hb2) hq (Only.of_below hb2) (Nat.le_succ _))
  clear h hb1 hb2 hbx hq
  unfold rpv
  go_enter Tryd.func9, Tryd.ntmps9
  go_upto_region 1 with fail
  show Code.wp _ _ _ _ ((w.alloc (.cells #[.int .i64 x.1.slot, .int .i64 x.1.gen, .int .i64 x.1.tag, .int .i64 x.1.num, .bool x.1.mark, .bool x.2] 44)).alloc (.cells (cac za).toArray 41))
  generalize (w.alloc (.cells #[.int .i64 x.1.slot, .int .i64 x.1.gen, .int .i64 x.1.tag, .int .i64 x.1.num, .bool x.1.mark, .bool x.2] 44)).alloc (.cells (cac za).toArray 41) = W at HX HN ⊢
  obtain ⟨v, hv⟩ : ∃ v, v = w.heap.size := ⟨_, rfl⟩
  have HNN : Hid (Ur w W b (v + 1) u) := Lib.hid (by rw [hv]; exact HN.out)
  clear HN
  rw [← hv] at HX ⊢
  clear hv
  have HN := HNN
  clear HNN
  have hz := BlkW.lt HN.out.hu
  have c4 := HN.out.hu.line
  have hle : (u.line == 9) = false := by simpa using hl
  have ck := HN.out.hu.kind
  rw [hk] at ck
  obtain ⟨b0, b1, b2, b3, b4, b5⟩ := rep6 HX.out
  have hzx := BlkW.lt HX.out
  clear hl hk
  have HCW := Lib.hid (HC.out W HN.out.hu)
  unfold rpv at HCW
  go_wp2_with fail
  refine HCW.out.mono ?_
  rintro e w2 ⟨rfl, h1, h2⟩
  replace HN := Lib.hid (HN.out.after h1.out h2.out)
  clear h1 h2 HCW HC b0 b1 b2 b3 b4 b5 hz hzx HX c4 ck hle
  generalize hG : cav c = G
  have HG := Lib.hid hG
  clear hG
  go_wp2_with (refine wp_store_c HN.out.hq rfl (.tmp 4) (.tmp 22) rfl (by rfl) c (HG.out.symm) ?_; intro W9 k1 k2; have R9 := Lib.hid (HN.out.fin k1 k2); clear k1 k2)
  rw [← HG.out]
  exact bodyPost_ret (v := cav (c)) (rresults rfl _ (by rfl) (rans_load R9.out.hq)) rfl ⟨rfl, Lib.hid R9.out.hu, Lib.hid R9.out.off⟩
set_option maxRecDepth 100000 in
set_option maxHeartbeats 1000000 in
theorem rnext_deq (h : UAt w b u) (x : Wd × Bool) (hl : ¬ u.line = 9) (hk : u.op.kind = 5) (hC : ∀ W, UAt W b u → Calls Tryd.prog 17 #[.pointer (some ⟨b, 0, none⟩), rpv x] W (UPost W b u' c)) :
    Calls Tryd.prog 9 #[.pointer (some ⟨b, 0, none⟩), rpv x] w (UPost w b (u') (c)) := by
  have HC := Lib.hid hC
  clear hC
  have hb1 := below_alloc (Below.refl w.heap.size w) (.cells #[.int .i64 x.1.slot, .int .i64 x.1.gen, .int .i64 x.1.tag, .int .i64 x.1.num, .bool x.1.mark, .bool x.2] 44)
  have hb2 := below_alloc hb1 (.cells (cac za).toArray 41)
  have hbx := below_alloc (Below.refl (w.alloc (.cells #[.int .i64 x.1.slot, .int .i64 x.1.gen, .int .i64 x.1.tag, .int .i64 x.1.num, .bool x.1.mark, .bool x.2] 44)).heap.size (w.alloc (.cells #[.int .i64 x.1.slot, .int .i64 x.1.gen, .int .i64 x.1.tag, .int .i64 x.1.num, .bool x.1.mark, .bool x.2] 44))) (.cells (cac za).toArray 41)
  have HX := Lib.hid ((box_rep w x).below hbx)
  have hq := BlkW.new (w.alloc (.cells #[.int .i64 x.1.slot, .int .i64 x.1.gen, .int .i64 x.1.tag, .int .i64 x.1.num, .bool x.1.mark, .bool x.2] 44)) 41 (cac za).toArray
  rw [World.size_alloc] at hq
  have HN := Lib.hid (Ur.mk (h.below hb2) hq (Only.of_below hb2) (Nat.le_succ _))
  clear h hb1 hb2 hbx hq
  unfold rpv
  go_enter Tryd.func9, Tryd.ntmps9
  go_upto_region 1 with fail
  show Code.wp _ _ _ _ ((w.alloc (.cells #[.int .i64 x.1.slot, .int .i64 x.1.gen, .int .i64 x.1.tag, .int .i64 x.1.num, .bool x.1.mark, .bool x.2] 44)).alloc (.cells (cac za).toArray 41))
  generalize (w.alloc (.cells #[.int .i64 x.1.slot, .int .i64 x.1.gen, .int .i64 x.1.tag, .int .i64 x.1.num, .bool x.1.mark, .bool x.2] 44)).alloc (.cells (cac za).toArray 41) = W at HX HN ⊢
  obtain ⟨v, hv⟩ : ∃ v, v = w.heap.size := ⟨_, rfl⟩
  have HNN : Hid (Ur w W b (v + 1) u) := Lib.hid (by rw [hv]; exact HN.out)
  clear HN
  rw [← hv] at HX ⊢
  clear hv
  have HN := HNN
  clear HNN
  have hz := BlkW.lt HN.out.hu
  have c4 := HN.out.hu.line
  have hle : (u.line == 9) = false := by simpa using hl
  have ck := HN.out.hu.kind
  rw [hk] at ck
  obtain ⟨b0, b1, b2, b3, b4, b5⟩ := rep6 HX.out
  have hzx := BlkW.lt HX.out
  clear hl hk
  have HCW := Lib.hid (HC.out W HN.out.hu)
  unfold rpv at HCW
  go_wp2_with fail
  refine HCW.out.mono ?_
  rintro e w2 ⟨rfl, h1, h2⟩
  replace HN := Lib.hid (HN.out.after h1.out h2.out)
  clear h1 h2 HCW HC b0 b1 b2 b3 b4 b5 hz hzx HX c4 ck hle
  generalize hG : cav c = G
  have HG := Lib.hid hG
  clear hG
  go_wp2_with (refine wp_store_c HN.out.hq rfl (.tmp 4) (.tmp 25) rfl (by rfl) c (HG.out.symm) ?_; intro W9 k1 k2; have R9 := Lib.hid (HN.out.fin k1 k2); clear k1 k2)
  rw [← HG.out]
  exact bodyPost_ret (v := cav (c)) (rresults rfl _ (by rfl) (rans_load R9.out.hq)) rfl ⟨rfl, Lib.hid R9.out.hu, Lib.hid R9.out.off⟩
/-- What the reference's job must be for a contract to speak of its next step. -/
def ROk (u : Rf) : Prop := (u.op.kind = 4 ∨ u.op.kind = 5) ∧ (u.line = 9 ∨ (u.line = 0 ∨ u.line = 1 ∨ u.line = 2 ∨ u.line = 3 ∨ u.line = 4 ∨ u.line = 5 ∨ u.line = 6 ∨ u.line = 7 ∨ u.line = 8))
theorem rnext_is (h : UAt w b u) (x : Wd × Bool) (ok : ROk u) :
    Calls Tryd.prog 9 #[.pointer (some ⟨b, 0, none⟩), rpv x] w (UPost w b (u.go x).1 (u.go x).2) := by
  obtain ⟨hk, hl⟩ := ok
  rcases hl with hl | hl
  · rw [show u.go x = (u, u.fin) by unfold Rf.go; rw [if_pos hl]]
    exact rnext_over h x hl
  · have hn : ¬ u.line = 9 := by omega
    rcases hk with hk | hk
    · rw [show u.go x = u.enq x by unfold Rf.go; rw [if_neg hn, if_pos hk]]
      exact rnext_enq h x hn hk fun W h' => renq_is h' x hl
    · rw [show u.go x = u.deq x by unfold Rf.go; rw [if_neg hn, if_neg (by rw [hk]; decide)]]
      exact rnext_deq h x hn hk fun W h' => rdeq_is h' x hl
end
end Go.Proofs.YtihjklimcchkhaaDoor.Co
