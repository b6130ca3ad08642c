/- cortege: Next, by kinds. A template (made by gen_XCd.py). -/
import Derived.Test.YtihjklimcchkhaaDoorCd
import Derived.Test.YtihjklimcchkhaaDoorCe
namespace Go.Proofs.YtihjklimcchkhaaDoor.Co
open Go.RowKit Go.Extern.Stop Go.Stop Go.Extern Go.Sort
section
variable {w w' : World} {b : Nat} {j j' : Jb}
/-- What Next leaves. -/
def JNext (w : World) (b : Nat) (j : Jb) (e : Ending) (w' : World) : Prop := e = .returned (cav j.ca) ∧ Hid (JAt w' b j) ∧ Hid (Only b w w')
theorem wp_store_ans {ops : Array Oper} {rest : List Oper} {op : Oper} {a : Act} {W : World} {Q : Exit → Act → World → Prop} {q : Nat} (hj : JAt W b j) (hq : BlkW W q 41 (cac za).toArray) (ho : Only b w W) (hf : w.heap.size ≤ q) (hgd : op.guard = none) (px py : Operand) (hop : op.op = .store 41 px py)
    (hx : a.eval px = .pointer (some ⟨q, 0, none⟩)) (c : Ca) (hy : a.eval py = .agg (cac c).toArray)
    (k : ∀ w', JAt w' b j → BlkW w' q 41 (cac c).toArray → Only b w w' → wpList Tryd.prog ops Q rest (a.put op.dst undef) w') : wpList Tryd.prog ops Q (op :: rest) a W := by
  refine wpList_store_mid hgd 41 px py hop q 0 (cac c).toArray hx hy (there_of_blk hq 0 18 (by decide)) (show (Tryd.prog.info? 41).map (·.size) = some (cac c).toArray.size from infoCl) (cac_one c) ?_
  have h1 : BlkW (W.setCells q 0 (cac c)) q 41 (cac c).toArray := by
    have h1 := blk_puts (cac c) 0 hq
    rwa [show putL (cac za) 0 (cac c) = cac c from by kernel_rfl] at h1
  have h2 : Off (fun j => j = q) W (W.setCells q 0 (cac c)) := Off.sets (K := fun j => j = q) (.inl rfl) _ 0 (Off.refl _ W)
  exact k _ (h2.blk hj (BlkW.ne_ hj hq (by decide))) h1 (Off.sets (K := fun j => j = b) (.inr hf) _ 0 ho)
theorem ans_load {W : World} {q : Nat} {c : Ca} (h : BlkW W q 41 (cac c).toArray) : (loadVar 41 ⟨q, 0, none⟩).run Tryd.prog W = .ok (cav c) W := by
  have hr : W.rangeAt q 0 (cac c) := fun j v hv => by rw [Nat.zero_add]; exact (BlkW.cell h j).trans (by rw [List.getElem?_toArray]; exact hv)
  exact run_loadVar_mid W q 0 41 (cac c) _ hr Tryd.underlying41 rfl infoCl
theorem results_cellc {P : Program} {fn : Func} {a : Tmp} {t : TypeId} (h : fn.results = #[.cell a t]) (tmps : Array Value) {q : Nat} {w : World} {v : Value} (ht : tmps.getD a undef = .pointer (some ⟨q, 0, none⟩)) (hl : (loadVar t ⟨q, 0, none⟩).run P w = .ok v w) : (results fn tmps).run P w = .ok v w := by
  have e : tmps[a]?.getD undef = .pointer (some ⟨q, 0, none⟩) := by rw [← ht]; simp
  simp [results, h, e, asAddr, hl]
set_option maxRecDepth 100000 in
set_option maxHeartbeats 1000000 in
theorem jnext_enq (h : JAt w b j) (x : Wd × Bool) (hk : j.op.kind = 4) (hC : ∀ W, JAt W b j → Calls Tryd.prog 14 #[.pointer (some ⟨b, 0, none⟩), rpv x] W (JLeaf W b j')) :
    Calls Tryd.prog 8 #[.pointer (some ⟨b, 0, none⟩), rpv x] w (JNext w b j') := by
  have hb1 := below_alloc (Below.refl w.heap.size w) (.cells #[.int .i64 x.1.slot, .int .i64 x.1.gen, .int .i64 x.1.tag, .int .i64 x.1.num, .bool x.1.mark, .bool x.2] 44)
  have hb2 := below_alloc hb1 (.cells (cac za).toArray 41)
  have hbx := below_alloc (Below.refl (w.alloc (.cells #[.int .i64 x.1.slot, .int .i64 x.1.gen, .int .i64 x.1.tag, .int .i64 x.1.num, .bool x.1.mark, .bool x.2] 44)).heap.size (w.alloc (.cells #[.int .i64 x.1.slot, .int .i64 x.1.gen, .int .i64 x.1.tag, .int .i64 x.1.num, .bool x.1.mark, .bool x.2] 44))) (.cells (cac za).toArray 41)
  have HO := Lib.hid (Only.of_below (r := b) hb2)
  have HX := Lib.hid ((box_rep w x).below hbx)
  have hq := BlkW.new (w.alloc (.cells #[.int .i64 x.1.slot, .int .i64 x.1.gen, .int .i64 x.1.tag, .int .i64 x.1.num, .bool x.1.mark, .bool x.2] 44)) 41 (cac za).toArray
  rw [World.size_alloc] at hq
  have HQ := Lib.hid hq
  have HR := Lib.hid (h.below hb2)
  have HC := Lib.hid hC
  have HK := Lib.hid hk
  have HF := Lib.hid (show w.heap.size ≤ w.heap.size + 1 by omega)
  clear h hC hk hb1 hb2 hbx hq
  unfold rpv
  go_enter Tryd.func8, Tryd.ntmps8
  go_upto_region 1 with fail
  show Code.wp _ _ _ _ ((w.alloc (.cells #[.int .i64 x.1.slot, .int .i64 x.1.gen, .int .i64 x.1.tag, .int .i64 x.1.num, .bool x.1.mark, .bool x.2] 44)).alloc (.cells (cac za).toArray 41))
  generalize ((w.alloc (.cells #[.int .i64 x.1.slot, .int .i64 x.1.gen, .int .i64 x.1.tag, .int .i64 x.1.num, .bool x.1.mark, .bool x.2] 44)).alloc (.cells (cac za).toArray 41)) = W at HR HX HO HQ ⊢
  obtain ⟨v, hv⟩ : ∃ v, v = w.heap.size := ⟨_, rfl⟩
  rw [← hv] at HX HQ HF ⊢
  have hX := HX.out
  have hzx := BlkW.lt hX
  have hrx : v ≠ b := fun e => BlkW.ne_ hX HR.out (by decide) e
  obtain ⟨b0, b1, b2, b3, b4, b5⟩ := rep6 hX
  have hz := BlkW.lt HR.out
  have hzq := BlkW.lt HQ.out
  have hqb : v + 1 ≠ b := fun e => BlkW.ne_ HQ.out HR.out (by decide) e
  have ck := HR.out.kind
  rw [HK.out] at ck
  clear hX HX
  have HV := Lib.hid hv
  clear hv
  have HCW := Lib.hid (HC.out W HR.out)
  unfold rpv at HCW
  go_wp2_with fail
  refine HCW.out.mono ?_
  rintro e w2 ⟨rfl, h1, h2⟩
  have HQ2 := Lib.hid (h2.out.blk HQ.out hqb)
  have H1 := Lib.hid h1.out
  have HO2 := Lib.hid (HO.out.trans h2.out)
  have hz2 := BlkW.lt H1.out
  clear h1 h2 HCW HC HR HQ HO b0 b1 b2 b3 b4 b5 ck hz hzq hzx
  have HRG := Lib.hid (H1.out.range 0 (cac j'.ca) (by kernel_rfl))
  generalize hG : Value.agg (cac j'.ca).toArray = G
  have HG := Lib.hid hG
  clear hG
  go_wp2_with (first
    | (refine wpList_load_mid rfl 41 (.tmp 26) rfl b 0 rfl (cac j'.ca) _ HRG.out Tryd.underlying41 rfl infoCl ?_; rw [HG.out])
    | (refine wp_store_ans H1.out HQ2.out HO2.out (HV.out ▸ HF.out) rfl (.tmp 4) (.tmp 27) rfl (by rfl) j'.ca HG.out.symm ?_; intro W3 k1 k2 k3; have K1 := Lib.hid k1; have K2 := Lib.hid k2; have K3 := Lib.hid k3; clear k1 k2 k3))
  exact bodyPost_ret (v := cav j'.ca) (results_cellc (q := v + 1) rfl _ (by rfl) (ans_load K2.out)) rfl ⟨rfl, K1, K3⟩
set_option maxRecDepth 100000 in
set_option maxHeartbeats 1000000 in
theorem jnext_deq (h : JAt w b j) (x : Wd × Bool) (hk : j.op.kind = 5) (hC : ∀ W, JAt W b j → Calls Tryd.prog 15 #[.pointer (some ⟨b, 0, none⟩), rpv x] W (JLeaf W b j')) :
    Calls Tryd.prog 8 #[.pointer (some ⟨b, 0, none⟩), rpv x] w (JNext w b j') := by
  have hb1 := below_alloc (Below.refl w.heap.size w) (.cells #[.int .i64 x.1.slot, .int .i64 x.1.gen, .int .i64 x.1.tag, .int .i64 x.1.num, .bool x.1.mark, .bool x.2] 44)
  have hb2 := below_alloc hb1 (.cells (cac za).toArray 41)
  have hbx := below_alloc (Below.refl (w.alloc (.cells #[.int .i64 x.1.slot, .int .i64 x.1.gen, .int .i64 x.1.tag, .int .i64 x.1.num, .bool x.1.mark, .bool x.2] 44)).heap.size (w.alloc (.cells #[.int .i64 x.1.slot, .int .i64 x.1.gen, .int .i64 x.1.tag, .int .i64 x.1.num, .bool x.1.mark, .bool x.2] 44))) (.cells (cac za).toArray 41)
  have HO := Lib.hid (Only.of_below (r := b) hb2)
  have HX := Lib.hid ((box_rep w x).below hbx)
  have hq := BlkW.new (w.alloc (.cells #[.int .i64 x.1.slot, .int .i64 x.1.gen, .int .i64 x.1.tag, .int .i64 x.1.num, .bool x.1.mark, .bool x.2] 44)) 41 (cac za).toArray
  rw [World.size_alloc] at hq
  have HQ := Lib.hid hq
  have HR := Lib.hid (h.below hb2)
  have HC := Lib.hid hC
  have HK := Lib.hid hk
  have HF := Lib.hid (show w.heap.size ≤ w.heap.size + 1 by omega)
  clear h hC hk hb1 hb2 hbx hq
  unfold rpv
  go_enter Tryd.func8, Tryd.ntmps8
  go_upto_region 1 with fail
  show Code.wp _ _ _ _ ((w.alloc (.cells #[.int .i64 x.1.slot, .int .i64 x.1.gen, .int .i64 x.1.tag, .int .i64 x.1.num, .bool x.1.mark, .bool x.2] 44)).alloc (.cells (cac za).toArray 41))
  generalize ((w.alloc (.cells #[.int .i64 x.1.slot, .int .i64 x.1.gen, .int .i64 x.1.tag, .int .i64 x.1.num, .bool x.1.mark, .bool x.2] 44)).alloc (.cells (cac za).toArray 41)) = W at HR HX HO HQ ⊢
  obtain ⟨v, hv⟩ : ∃ v, v = w.heap.size := ⟨_, rfl⟩
  rw [← hv] at HX HQ HF ⊢
  have hX := HX.out
  have hzx := BlkW.lt hX
  have hrx : v ≠ b := fun e => BlkW.ne_ hX HR.out (by decide) e
  obtain ⟨b0, b1, b2, b3, b4, b5⟩ := rep6 hX
  have hz := BlkW.lt HR.out
  have hzq := BlkW.lt HQ.out
  have hqb : v + 1 ≠ b := fun e => BlkW.ne_ HQ.out HR.out (by decide) e
  have ck := HR.out.kind
  rw [HK.out] at ck
  clear hX HX
  have HV := Lib.hid hv
  clear hv
  have HCW := Lib.hid (HC.out W HR.out)
  unfold rpv at HCW
  go_wp2_with fail
  refine HCW.out.mono ?_
  rintro e w2 ⟨rfl, h1, h2⟩
  have HQ2 := Lib.hid (h2.out.blk HQ.out hqb)
  have H1 := Lib.hid h1.out
  have HO2 := Lib.hid (HO.out.trans h2.out)
  have hz2 := BlkW.lt H1.out
  clear h1 h2 HCW HC HR HQ HO b0 b1 b2 b3 b4 b5 ck hz hzq hzx
  have HRG := Lib.hid (H1.out.range 0 (cac j'.ca) (by kernel_rfl))
  generalize hG : Value.agg (cac j'.ca).toArray = G
  have HG := Lib.hid hG
  clear hG
  go_wp2_with (first
    | (refine wpList_load_mid rfl 41 (.tmp 26) rfl b 0 rfl (cac j'.ca) _ HRG.out Tryd.underlying41 rfl infoCl ?_; rw [HG.out])
    | (refine wp_store_ans H1.out HQ2.out HO2.out (HV.out ▸ HF.out) rfl (.tmp 4) (.tmp 27) rfl (by rfl) j'.ca HG.out.symm ?_; intro W3 k1 k2 k3; have K1 := Lib.hid k1; have K2 := Lib.hid k2; have K3 := Lib.hid k3; clear k1 k2 k3))
  exact bodyPost_ret (v := cav j'.ca) (results_cellc (q := v + 1) rfl _ (by rfl) (ans_load K2.out)) rfl ⟨rfl, K1, K3⟩
/-- What a job must be for a contract to speak of its next step. -/
def JOk (j : Jb) : Prop := (j.op.kind = 4 ∧ (j.done = 0 ∨ j.done = 1 ∨ j.done = 8 ∨ j.done = 2 ∨ j.done = 7 ∨ j.done = 3 ∨ j.done = 5 ∨ j.done = 6 ∨ j.done = 9 ∨ j.done = 13)) ∨ (j.op.kind = 5 ∧ (j.done = 11 ∨ j.done = 0 ∨ j.done = 7 ∨ j.done = 3 ∨ j.done = 4 ∨ j.done = 5 ∨ j.done = 6 ∨ j.done = 10 ∨ j.done = 12 ∨ j.done = 13))
theorem enq_is (h : JAt w b j) (x : Wd × Bool) (hd : j.done = 0 ∨ j.done = 1 ∨ j.done = 8 ∨ j.done = 2 ∨ j.done = 7 ∨ j.done = 3 ∨ j.done = 5 ∨ j.done = 6 ∨ j.done = 9 ∨ j.done = 13) :
    Calls Tryd.prog 14 #[.pointer (some ⟨b, 0, none⟩), rpv x] w (JLeaf w b (j.enq x)) := by
  rcases hd with hd | hd | hd | hd | hd | hd | hd | hd | hd | hd
  · rw [show j.enq x = j.ask cAlloc 1 by unfold Jb.enq; rw [if_pos hd]]
    exact enq_0 h x hd
  · cases hx : x.2 with
    | true =>
      rw [show j.enq x = (j.setNode x.1).ask (cStore (fld x.1 1) (nw j.op.val)) 2 by unfold Jb.enq; rw [if_neg (by rw [hd]; decide), if_pos hd, if_pos hx]]
      exact enq_given h x hd hx
    | false =>
      rw [show j.enq x = j.end_ 4 0 by unfold Jb.enq; rw [if_neg (by rw [hd]; decide), if_pos hd, if_neg (by rw [hx]; decide)]]
      exact enq_full h x hd hx
  · cases hx : x.2 with
    | true =>
      rw [show j.enq x = j.ask (cSwap (0, 0, 1) j.tail j.node) 9 by unfold Jb.enq; rw [if_neg (by rw [hd]; decide), if_neg (by rw [hd]; decide), if_pos hd, if_pos hx]]
      exact enq_linked h x hd hx
    | false =>
      rw [show j.enq x = j.lookT by unfold Jb.enq; rw [if_neg (by rw [hd]; decide), if_neg (by rw [hd]; decide), if_pos hd, if_neg (by rw [hx]; decide)]]
      exact enq_slow h x hd hx
  · rw [show j.enq x = j.lookT by unfold Jb.enq; rw [if_neg (by rw [hd]; decide), if_neg (by rw [hd]; decide), if_neg (by rw [hd]; decide), if_pos hd]]
    exact enq_2 h x hd
  · rw [show j.enq x = j.lookT by unfold Jb.enq; rw [if_neg (by rw [hd]; decide), if_neg (by rw [hd]; decide), if_neg (by rw [hd]; decide), if_neg (by rw [hd]; decide), if_pos hd]]
    exact enq_7 h x hd
  · rw [show j.enq x = (j.setTail x.1).ask (cLoad (fld x.1 2)) 5 by unfold Jb.enq; rw [if_neg (by rw [hd]; decide), if_neg (by rw [hd]; decide), if_neg (by rw [hd]; decide), if_neg (by rw [hd]; decide), if_neg (by rw [hd]; decide), if_pos hd]]
    exact enq_looked h x hd
  · rw [show j.enq x = (j.setNext x.1).ask (cLoad (0, 0, 1)) 6 by unfold Jb.enq; rw [if_neg (by rw [hd]; decide), if_neg (by rw [hd]; decide), if_neg (by rw [hd]; decide), if_neg (by rw [hd]; decide), if_neg (by rw [hd]; decide), if_neg (by rw [hd]; decide), if_pos hd]]
    exact enq_followed h x hd
  · rw [show j.enq x = j.link x.1 by unfold Jb.enq; rw [if_neg (by rw [hd]; decide), if_neg (by rw [hd]; decide), if_neg (by rw [hd]; decide), if_neg (by rw [hd]; decide), if_neg (by rw [hd]; decide), if_neg (by rw [hd]; decide), if_neg (by rw [hd]; decide), if_pos hd]]
    exact enq_checked h x hd
  · rw [show j.enq x = j.end_ 1 0 by unfold Jb.enq; rw [if_neg (by rw [hd]; decide), if_neg (by rw [hd]; decide), if_neg (by rw [hd]; decide), if_neg (by rw [hd]; decide), if_neg (by rw [hd]; decide), if_neg (by rw [hd]; decide), if_neg (by rw [hd]; decide), if_neg (by rw [hd]; decide), if_pos hd]]
    exact enq_brought h x hd
  · rw [show j.enq x = j by unfold Jb.enq; rw [if_neg (by rw [hd]; decide), if_neg (by rw [hd]; decide), if_neg (by rw [hd]; decide), if_neg (by rw [hd]; decide), if_neg (by rw [hd]; decide), if_neg (by rw [hd]; decide), if_neg (by rw [hd]; decide), if_neg (by rw [hd]; decide), if_neg (by rw [hd]; decide)]]
    exact enq_13 h x hd
theorem deq_is (h : JAt w b j) (x : Wd × Bool) (hd : j.done = 11 ∨ j.done = 0 ∨ j.done = 7 ∨ j.done = 3 ∨ j.done = 4 ∨ j.done = 5 ∨ j.done = 6 ∨ j.done = 10 ∨ j.done = 12 ∨ j.done = 13) :
    Calls Tryd.prog 15 #[.pointer (some ⟨b, 0, none⟩), rpv x] w (JLeaf w b (j.deq x)) := by
  rcases hd with hd | hd | hd | hd | hd | hd | hd | hd | hd | hd
  · cases hx : x.2 with
    | true =>
      rw [show j.deq x = j.ask (cRetire j.head) 12 by unfold Jb.deq; rw [if_pos hd, if_pos hx]]
      exact deq_swapped h x hd hx
    | false =>
      rw [show j.deq x = j.lookH by unfold Jb.deq; rw [if_pos hd, if_neg (by rw [hx]; decide)]]
      exact deq_slow h x hd hx
  · rw [show j.deq x = j.lookH by unfold Jb.deq; rw [if_neg (by rw [hd]; decide), if_pos hd]]
    exact deq_0 h x hd
  · rw [show j.deq x = j.lookH by unfold Jb.deq; rw [if_neg (by rw [hd]; decide), if_neg (by rw [hd]; decide), if_pos hd]]
    exact deq_7 h x hd
  · rw [show j.deq x = (j.setHead x.1).ask (cLoad (0, 0, 1)) 4 by unfold Jb.deq; rw [if_neg (by rw [hd]; decide), if_neg (by rw [hd]; decide), if_neg (by rw [hd]; decide), if_pos hd]]
    exact deq_looked h x hd
  · rw [show j.deq x = (j.setTail x.1).ask (cProtect (fld j.head 2) 1) 5 by unfold Jb.deq; rw [if_neg (by rw [hd]; decide), if_neg (by rw [hd]; decide), if_neg (by rw [hd]; decide), if_neg (by rw [hd]; decide), if_pos hd]]
    exact deq_sighted h x hd
  · rw [show j.deq x = (j.setNext x.1).ask (cLoad (0, 0, 0)) 6 by unfold Jb.deq; rw [if_neg (by rw [hd]; decide), if_neg (by rw [hd]; decide), if_neg (by rw [hd]; decide), if_neg (by rw [hd]; decide), if_neg (by rw [hd]; decide), if_pos hd]]
    exact deq_followed h x hd
  · rw [show j.deq x = j.take x.1 by unfold Jb.deq; rw [if_neg (by rw [hd]; decide), if_neg (by rw [hd]; decide), if_neg (by rw [hd]; decide), if_neg (by rw [hd]; decide), if_neg (by rw [hd]; decide), if_neg (by rw [hd]; decide), if_pos hd]]
    exact deq_checked h x hd
  · rw [show j.deq x = (j.setVal x.1.num).ask (cSwap (0, 0, 0) j.head j.next) 11 by unfold Jb.deq; rw [if_neg (by rw [hd]; decide), if_neg (by rw [hd]; decide), if_neg (by rw [hd]; decide), if_neg (by rw [hd]; decide), if_neg (by rw [hd]; decide), if_neg (by rw [hd]; decide), if_neg (by rw [hd]; decide), if_pos hd]]
    exact deq_read h x hd
  · rw [show j.deq x = j.end_ 1 j.val by unfold Jb.deq; rw [if_neg (by rw [hd]; decide), if_neg (by rw [hd]; decide), if_neg (by rw [hd]; decide), if_neg (by rw [hd]; decide), if_neg (by rw [hd]; decide), if_neg (by rw [hd]; decide), if_neg (by rw [hd]; decide), if_neg (by rw [hd]; decide), if_pos hd]]
    exact deq_over h x hd
  · rw [show j.deq x = j by unfold Jb.deq; rw [if_neg (by rw [hd]; decide), if_neg (by rw [hd]; decide), if_neg (by rw [hd]; decide), if_neg (by rw [hd]; decide), if_neg (by rw [hd]; decide), if_neg (by rw [hd]; decide), if_neg (by rw [hd]; decide), if_neg (by rw [hd]; decide), if_neg (by rw [hd]; decide)]]
    exact deq_13 h x hd
theorem jnext_is (h : JAt w b j) (x : Wd × Bool) (ok : JOk j) :
    Calls Tryd.prog 8 #[.pointer (some ⟨b, 0, none⟩), rpv x] w (JNext w b (j.go x)) := by
  rcases ok with ⟨hk, hd⟩ | ⟨hk, hd⟩
  · rw [show j.go x = j.enq x by unfold Jb.go; rw [if_pos hk]]
    exact jnext_enq h x hk fun W h' => enq_is h' x hd
  · rw [show j.go x = j.deq x by unfold Jb.go; rw [if_neg (by rw [hk]; decide), if_pos hk]]
    exact jnext_deq h x hk fun W h' => deq_is h' x hd
end
end Go.Proofs.YtihjklimcchkhaaDoor.Co
