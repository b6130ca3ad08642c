/- Mourner.next behind the look into the slot. A template (made by gen_XRz.py). -/
import Derived.Test.YtjilhncnbkaebaaGreatDoorRy
namespace Go.Proofs.YtjilhncnbkaebaaGreatDoor
open Go.RowKit Go.Extern.Stop Go.Stop Go.Extern Go.Sort
section
variable {w W W' : World} {r b q xb ab : Nat} {sv fv nv : Value} {m : Rt} {mo : Mo} {x : Wd × Bool}
/-- What the look reads, but for the cell that it turns. -/
def Rl (b xb : Nat) (d : Wd) (n : Int) (W : World) : Prop := W.rangeAt b 2 (wc d) ∧ W.cell? ⟨xb, 3, none⟩ = some (.int .i64 n)
theorem Nx.rl {n : Nat} (h : Nx w W b q xb r { mo with pc := n } x) : Rl b xb mo.old x.1.num W := ⟨blk_range h.hm 2 _ (by kernel_rfl), h.hx.cell 3⟩
set_option maxRecDepth 100000 in
set_option maxHeartbeats 1000000 in
theorem next_3 (h : RtAt w r sv fv nv m) (hm : BlkW w b 36 (moc r mo).toArray) (hp : mo.pc = 3) (hlx : m.st.last = x) (hb : Hid (mo.bad = false)) (hn : mo.old.nil = false) (hs : Hid (0 ≤ mo.old.slot ∧ mo.old.slot ≤ 1000000)) (hg : Hid (0 ≤ mo.old.gen ∧ mo.old.gen ≤ 1000000000)) :
    Calls Tryz.prog 41 #[.pointer (some ⟨b, 0, none⟩)] w (NPost w b r { mo with pc := 4, bad := x.1.num != (mo.old.slot + 2000 * mo.old.gen) } (cl 8)) := by
  have hl := Lib.hid h
  have hz := hm.lt
  have c0 : w.cell? ⟨b, 0, none⟩ = some (.pointer (some ⟨r, 0, none⟩)) := hm.cell 0
  have HM := Lib.hid hm
  clear h hm
  go_enter Tryz.func41, Tryz.ntmps41
  go_wp2_with fail
  refine (Reply_is (hl.out.below (below_alloc (Below.refl _ _) _))).mono ?_
  rintro e w1 ⟨rfl, hb⟩
  rw [hlx]
  clear hlx
  unfold rpv
  clear c0
  have HN : Hid (Nx w (w1.alloc (.cells (rpA x) 63)) b w.heap.size w1.heap.size r mo x) := by
    have b1 := below_alloc (Below.refl w.heap.size w) (.cells (clc zc).toArray 51)
    have b2 := below_alloc (Below.refl w1.heap.size w1) (.cells (rpA x) 63)
    exact Lib.hid ⟨((HM.out.below b1).below hb).below b2, ((BlkW.new _ _ _).below hb).below b2, BlkW.new _ _ _, ((Off.of_below b1).then hb).then b2, Nat.le_refl _⟩
  clear hb hl HM
  go_wp2_with fail
  simp only [show (w1.alloc (.cells #[.int .i64 x.1.slot, .int .i64 x.1.gen, .int .i64 x.1.tag, .int .i64 x.1.num, .bool x.1.mark, .bool x.2] 63)) = w1.alloc (.cells (rpA x) 63) from rfl]
  generalize w1.alloc (.cells (rpA x) 63) = W at HN ⊢
  generalize w.heap.size = q at HN ⊢
  generalize w1.heap.size = xb at HN ⊢
  refine (Bd.Root_yes 0 ⟨by decide, by decide⟩ _).mono ?_
  rintro e w2 ⟨rfl, hb⟩
  replace HN := Lib.hid (HN.out.below hb)
  clear hb
  unfold Bd.ad
  go_upto_region 3 with fail
  have HA := Lib.hid (BlkW.new w2 47 #[.int .i64 0, .int .i64 0, .int .i64 0])
  replace HN := Lib.hid (HN.out.below (below_alloc (Below.refl w2.heap.size w2) (.cells #[.int .i64 0, .int .i64 0, .int .i64 0] 47)))
  generalize w2.alloc (.cells #[.int .i64 0, .int .i64 0, .int .i64 0] 47) = W at HN HA ⊢
  generalize w2.heap.size = ab at HA ⊢
  have hne := BlkW.ne_ HA.out HN.out.hm (by decide)
  have p1 : W.cell? ⟨b, 1, none⟩ = some (.int .i64 (mo.pc : Int)) := HN.out.hm.cell 1
  rw [hp] at p1
  have hz := HN.out.hm.lt
  have f1 : W.frozen? ⟨b, 1, none⟩ = false := HN.out.hm.frozen 1
  have z1 : wrap64 (((3 : Nat) : Int) + 1) = 4 := IntWalk.wrap64_in _ ⟨by decide, by decide⟩
  go_upto_region 4 with fail
  replace HN : Hid (Nx w (W.setCell ⟨b, 1, none⟩ (.int .i64 4)) b q xb r { mo with pc := 4 } x) := Lib.hid (HN.out.puts 1 [.int .i64 4] rfl)
  replace HA : Hid (BlkW (W.setCell ⟨b, 1, none⟩ (.int .i64 4)) ab 47 #[.int .i64 0, .int .i64 0, .int .i64 0]) := Lib.hid (HA.out.far hne _)
  clear p1 f1 hz z1
  generalize W.setCell ⟨b, 1, none⟩ (.int .i64 4) = W at HN HA ⊢
  have p1 : W.cell? ⟨b, 1, none⟩ = some (.int .i64 4) := HN.out.hm.cell 1
  have hz := HN.out.hm.lt
  go_upto_region 15 with fail
  have HB := HN.out.hm.cell 12
  have f12 := HN.out.hm.frozen 12
  refine wp_region_held (S := Rl b xb mo.old x.1.num) (by kernel_rfl) ?_
  replace HN := Lib.hid (HN.out.below (Below.refl _ _).drew)
  have hS : Rl b xb mo.old x.1.num W.drew := HN.out.rl
  clear HA hz p1 HB f12
  show wpAnyH _ _ _ _ _ 27 #[false, false, false, false, false, false, false, false, false, false, false, false, false, false, false, false, false, false, false, false, false, false, false, false, false, false, false] _ W.drew
  generalize W.drew = W at HN hS ⊢
  have c12 : W.cell? ⟨b, 12, none⟩ = some (.bool mo.bad) := HN.out.hm.cell 12
  rw [hb.out] at c12
  refine wpAnyH_take (i := 0) (v := .pointer (some ⟨b, 0, none⟩)) rfl (by kernel_rfl) (by kernel_rfl) (by kernel_rfl) (fun _ _ _ h => h) (Or.inl ⟨by rfl, fun w' _ => by go_simp⟩) hS ?_
  simp only [Act.put, List.getElem_toArray, List.getElem_cons_succ, List.getElem_cons_zero, List.setIfInBounds_toArray, List.set_cons_zero, List.set_cons_succ]
  refine wpAnyH_take (i := 1) (v := .pointer (some ⟨b, 0, none⟩)) rfl (by kernel_rfl) (by kernel_rfl) (by kernel_rfl) (fun _ _ _ h => h) (Or.inl ⟨by rfl, fun w' _ => by go_simp⟩) hS ?_
  simp only [Act.put, List.getElem_toArray, List.getElem_cons_succ, List.getElem_cons_zero, List.setIfInBounds_toArray, List.set_cons_zero, List.set_cons_succ]
  refine wpAnyH_take (i := 2) (v := .pointer (some ⟨b, 0, none⟩)) rfl (by kernel_rfl) (by kernel_rfl) (by kernel_rfl) (fun _ _ _ h => h) (Or.inl ⟨by rfl, fun w' _ => by go_simp⟩) hS ?_
  simp only [Act.put, List.getElem_toArray, List.getElem_cons_succ, List.getElem_cons_zero, List.setIfInBounds_toArray, List.set_cons_zero, List.set_cons_succ]
  refine wpAnyH_take (i := 3) (v := .pointer (some ⟨b, 12, none⟩)) rfl (by kernel_rfl) (by kernel_rfl) (by kernel_rfl) (fun _ _ _ h => h) (Or.inl ⟨by rfl, fun w' _ => by go_simp⟩) hS ?_
  simp only [Act.put, List.getElem_toArray, List.getElem_cons_succ, List.getElem_cons_zero, List.setIfInBounds_toArray, List.set_cons_zero, List.set_cons_succ]
  refine wpAnyH_ready (rs := [4]) (by kernel_rfl) (by simp) ?_
  refine AllReadyH.cons rfl (fun K hK => ?_) AllReadyH.nil
  rw [if_pos (by rfl)]
  go_simp
  refine hK.out _ _ hS (fun _ => ?_)
  clear hK K
  refine wpAnyH_take (i := 5) (v := .bool false) rfl (by kernel_rfl) (by kernel_rfl) (by kernel_rfl) (fun _ _ _ h => h) (Or.inl ⟨by rfl, fun w' _ => by go_simp⟩) hS ?_
  simp only [Act.put, List.getElem_toArray, List.getElem_cons_succ, List.getElem_cons_zero, List.setIfInBounds_toArray, List.set_cons_zero, List.set_cons_succ]
  refine wpAnyH_take (i := 6) (v := .pointer (some ⟨b, 0, none⟩)) rfl (by kernel_rfl) (by kernel_rfl) (by kernel_rfl) (fun _ _ _ h => h) (Or.inl ⟨by rfl, fun w' _ => by go_simp⟩) hS ?_
  simp only [Act.put, List.getElem_toArray, List.getElem_cons_succ, List.getElem_cons_zero, List.setIfInBounds_toArray, List.set_cons_zero, List.set_cons_succ]
  refine wpAnyH_take (i := 7) (v := .pointer (some ⟨b, 0, none⟩)) rfl (by kernel_rfl) (by kernel_rfl) (by kernel_rfl) (fun _ _ _ h => h) (Or.inl ⟨by rfl, fun w' _ => by go_simp⟩) hS ?_
  simp only [Act.put, List.getElem_toArray, List.getElem_cons_succ, List.getElem_cons_zero, List.setIfInBounds_toArray, List.set_cons_zero, List.set_cons_succ]
  refine wpAnyH_take (i := 8) (v := .pointer (some ⟨b, 2, none⟩)) rfl (by kernel_rfl) (by kernel_rfl) (by kernel_rfl) (fun _ _ _ h => h) (Or.inl ⟨by rfl, fun w' _ => by go_simp⟩) hS ?_
  simp only [Act.put, List.getElem_toArray, List.getElem_cons_succ, List.getElem_cons_zero, List.setIfInBounds_toArray, List.set_cons_zero, List.set_cons_succ]
  refine wpAnyH_take (i := 9) (v := .agg (wc mo.old).toArray) rfl (by kernel_rfl) (by kernel_rfl) (by kernel_rfl) (fun _ _ _ h => h) (yieldsIf_load_mid (by rfl) 34 (.tmp 63) rfl b 2 rfl (wc mo.old) _ (fun w' h => h.1) Tryz.underlying34 rfl infoWrd) hS ?_
  simp only [Act.put, List.getElem_toArray, List.getElem_cons_succ, List.getElem_cons_zero, List.setIfInBounds_toArray, List.set_cons_zero, List.set_cons_succ]
  refine wpAnyH_ready (rs := [10]) (by kernel_rfl) (by simp) ?_
  refine AllReadyH.cons rfl (fun K hK => ?_) AllReadyH.nil
  rw [if_pos (by rfl)]
  go_simp
  refine (Nil_any _ _ _ _ _ _).mono ?_
  rintro e wk ⟨rfl, hbk⟩
  rw [show (mo.old.slot == 0) = false from hn]
  replace HN := Lib.hid (HN.out.below hbk)
  refine hK.out _ _ HN.out.rl (fun _ => ?_)
  replace hS := HN.out.rl
  clear hbk hK K
  refine wpAnyH_take (i := 11) (v := .bool true) rfl (by kernel_rfl) (by kernel_rfl) (by kernel_rfl) (fun _ _ _ h => h) (Or.inl ⟨by rfl, fun w' _ => by go_simp⟩) hS ?_
  simp only [Act.put, List.getElem_toArray, List.getElem_cons_succ, List.getElem_cons_zero, List.setIfInBounds_toArray, List.set_cons_zero, List.set_cons_succ]
  refine wpAnyH_take (i := 12) (v := .bool true) rfl (by kernel_rfl) (by kernel_rfl) (by kernel_rfl) (fun _ _ _ h => h) (Or.inl ⟨by rfl, fun w' _ => by go_simp⟩) hS ?_
  simp only [Act.put, List.getElem_toArray, List.getElem_cons_succ, List.getElem_cons_zero, List.setIfInBounds_toArray, List.set_cons_zero, List.set_cons_succ]
  refine wpAnyH_take (i := 13) (v := .pointer (some ⟨xb, 0, none⟩)) rfl (by kernel_rfl) (by kernel_rfl) (by kernel_rfl) (fun _ _ _ h => h) (Or.inl ⟨by rfl, fun w' _ => by go_simp⟩) hS ?_
  simp only [Act.put, List.getElem_toArray, List.getElem_cons_succ, List.getElem_cons_zero, List.setIfInBounds_toArray, List.set_cons_zero, List.set_cons_succ]
  refine wpAnyH_take (i := 14) (v := .pointer (some ⟨xb, 3, none⟩)) rfl (by kernel_rfl) (by kernel_rfl) (by kernel_rfl) (fun _ _ _ h => h) (Or.inl ⟨by rfl, fun w' _ => by go_simp⟩) hS ?_
  simp only [Act.put, List.getElem_toArray, List.getElem_cons_succ, List.getElem_cons_zero, List.setIfInBounds_toArray, List.set_cons_zero, List.set_cons_succ]
  refine wpAnyH_take (i := 15) (v := .int .i64 x.1.num) rfl (by kernel_rfl) (by kernel_rfl) (by kernel_rfl) (fun _ _ _ h => h) (Or.inl ⟨by rfl, fun w' h => by have h2 := h.2; go_simp⟩) hS ?_
  simp only [Act.put, List.getElem_toArray, List.getElem_cons_succ, List.getElem_cons_zero, List.setIfInBounds_toArray, List.set_cons_zero, List.set_cons_succ]
  refine wpAnyH_take (i := 16) (v := .pointer (some ⟨b, 0, none⟩)) rfl (by kernel_rfl) (by kernel_rfl) (by kernel_rfl) (fun _ _ _ h => h) (Or.inl ⟨by rfl, fun w' _ => by go_simp⟩) hS ?_
  simp only [Act.put, List.getElem_toArray, List.getElem_cons_succ, List.getElem_cons_zero, List.setIfInBounds_toArray, List.set_cons_zero, List.set_cons_succ]
  refine wpAnyH_take (i := 17) (v := .pointer (some ⟨b, 0, none⟩)) rfl (by kernel_rfl) (by kernel_rfl) (by kernel_rfl) (fun _ _ _ h => h) (Or.inl ⟨by rfl, fun w' _ => by go_simp⟩) hS ?_
  simp only [Act.put, List.getElem_toArray, List.getElem_cons_succ, List.getElem_cons_zero, List.setIfInBounds_toArray, List.set_cons_zero, List.set_cons_succ]
  refine wpAnyH_take (i := 18) (v := .pointer (some ⟨b, 2, none⟩)) rfl (by kernel_rfl) (by kernel_rfl) (by kernel_rfl) (fun _ _ _ h => h) (Or.inl ⟨by rfl, fun w' _ => by go_simp⟩) hS ?_
  simp only [Act.put, List.getElem_toArray, List.getElem_cons_succ, List.getElem_cons_zero, List.setIfInBounds_toArray, List.set_cons_zero, List.set_cons_succ]
  refine wpAnyH_take (i := 19) (v := .agg (wc mo.old).toArray) rfl (by kernel_rfl) (by kernel_rfl) (by kernel_rfl) (fun _ _ _ h => h) (yieldsIf_load_mid (by rfl) 34 (.tmp 73) rfl b 2 rfl (wc mo.old) _ (fun w' h => h.1) Tryz.underlying34 rfl infoWrd) hS ?_
  simp only [Act.put, List.getElem_toArray, List.getElem_cons_succ, List.getElem_cons_zero, List.setIfInBounds_toArray, List.set_cons_zero, List.set_cons_succ]
  refine wpAnyH_ready (rs := [20]) (by kernel_rfl) (by simp) ?_
  refine AllReadyH.cons rfl (fun K hK => ?_) AllReadyH.nil
  rw [if_pos (by rfl)]
  go_simp
  refine (mark_any _ _ _ _ _ hs.out hg.out _).mono ?_
  rintro e wk ⟨rfl, hbk⟩
  replace HN := Lib.hid (HN.out.below hbk)
  refine hK.out _ _ HN.out.rl (fun _ => ?_)
  replace hS := HN.out.rl
  clear hbk hK K
  refine wpAnyH_take (i := 21) (v := .bool (x.1.num != (mo.old.slot + 2000 * mo.old.gen))) rfl (by kernel_rfl) (by kernel_rfl) (by kernel_rfl) (fun _ _ _ h => h) (Or.inl ⟨by rfl, fun w' _ => by go_simp⟩) hS ?_
  simp only [Act.put, List.getElem_toArray, List.getElem_cons_succ, List.getElem_cons_zero, List.setIfInBounds_toArray, List.set_cons_zero, List.set_cons_succ]
  refine wpAnyH_take (i := 22) (v := .bool (x.1.num != (mo.old.slot + 2000 * mo.old.gen))) rfl (by kernel_rfl) (by kernel_rfl) (by kernel_rfl) (fun _ _ _ h => h) (Or.inl ⟨by rfl, fun w' _ => by go_simp⟩) hS ?_
  simp only [Act.put, List.getElem_toArray, List.getElem_cons_succ, List.getElem_cons_zero, List.setIfInBounds_toArray, List.set_cons_zero, List.set_cons_succ]
  refine wpAnyH_take (i := 23) (v := .bool (x.1.num != (mo.old.slot + 2000 * mo.old.gen))) rfl (by kernel_rfl) (by kernel_rfl) (by kernel_rfl) (fun _ _ _ h => h) (Or.inl ⟨by rfl, fun w' _ => by go_simp⟩) hS ?_
  simp only [Act.put, List.getElem_toArray, List.getElem_cons_succ, List.getElem_cons_zero, List.setIfInBounds_toArray, List.set_cons_zero, List.set_cons_succ]
  refine wpAnyH_take (i := 24) (v := .pointer (some ⟨b, 0, none⟩)) rfl (by kernel_rfl) (by kernel_rfl) (by kernel_rfl) (fun _ _ _ h => h) (Or.inl ⟨by rfl, fun w' _ => by go_simp⟩) hS ?_
  simp only [Act.put, List.getElem_toArray, List.getElem_cons_succ, List.getElem_cons_zero, List.setIfInBounds_toArray, List.set_cons_zero, List.set_cons_succ]
  refine wpAnyH_take (i := 25) (v := .pointer (some ⟨b, 12, none⟩)) rfl (by kernel_rfl) (by kernel_rfl) (by kernel_rfl) (fun _ _ _ h => h) (Or.inl ⟨by rfl, fun w' _ => by go_simp⟩) hS ?_
  simp only [Act.put, List.getElem_toArray, List.getElem_cons_succ, List.getElem_cons_zero, List.setIfInBounds_toArray, List.set_cons_zero, List.set_cons_succ]
  generalize wk = W0 at HN hS ⊢
  have c12 : W0.cell? ⟨b, 12, none⟩ = some (.bool mo.bad) := HN.out.hm.cell 12
  have f12 : W0.frozen? ⟨b, 12, none⟩ = false := HN.out.hm.frozen 12
  have hz := HN.out.hm.lt
  refine wpAnyH_ready (rs := [26]) (by kernel_rfl) (by simp) ?_
  refine AllReadyH.cons rfl (fun K hK => ?_) AllReadyH.nil
  rw [if_pos (by rfl)]
  go_simp
  have HN2 : Hid (Nx w (W0.setCell ⟨b, 12, none⟩ (.bool (x.1.num != (mo.old.slot + 2000 * mo.old.gen)))) b q xb r { mo with pc := 4, bad := x.1.num != (mo.old.slot + 2000 * mo.old.gen) } x) := Lib.hid (HN.out.puts 12 [.bool (x.1.num != (mo.old.slot + 2000 * mo.old.gen))] rfl)
  refine hK.out _ _ (Nx.rl (mo := { mo with bad := x.1.num != (mo.old.slot + 2000 * mo.old.gen) }) HN2.out) (fun _ => ?_)
  refine wpAnyH_done (by kernel_rfl) ?_ _
  clear hK K hS HN c12 f12 hz
  replace HN := HN2
  clear HN2
  generalize W0.setCell ⟨b, 12, none⟩ (.bool (x.1.num != (mo.old.slot + 2000 * mo.old.gen))) = W at HN ⊢
  go_upto_region 16 with fail
  go_wp2_with (first | (refine wpList_build rfl 51 _ rfl (.agg (clc (cl 8)).toArray) (by kernel_rfl) ?_) | (refine wp_store_q HN.out rfl (.tmp 2) (.tmp 81) rfl (by rfl) (cl 8) (by rfl) ?_; intro W1 R1; have R1 := Lib.hid R1))
  exact bodyPost_ret (v := clv (cl 8)) (results_cell Tryz.results41 _ (by rfl) R1.out.load) rfl ⟨rfl, Lib.hid R1.out.hm, Lib.hid R1.out.off⟩
set_option maxRecDepth 100000 in
set_option maxHeartbeats 1000000 in
theorem next_3nil (h : RtAt w r sv fv nv m) (hm : BlkW w b 36 (moc r mo).toArray) (hp : mo.pc = 3) (hlx : m.st.last = x) (hb : Hid (mo.bad = false)) (hn : mo.old.nil = true) :
    Calls Tryz.prog 41 #[.pointer (some ⟨b, 0, none⟩)] w (NPost w b r { mo with pc := 4, bad := false } (cl 8)) := by
  have hl := Lib.hid h
  have hz := hm.lt
  have c0 : w.cell? ⟨b, 0, none⟩ = some (.pointer (some ⟨r, 0, none⟩)) := hm.cell 0
  have HM := Lib.hid hm
  clear h hm
  go_enter Tryz.func41, Tryz.ntmps41
  go_wp2_with fail
  refine (Reply_is (hl.out.below (below_alloc (Below.refl _ _) _))).mono ?_
  rintro e w1 ⟨rfl, hb⟩
  rw [hlx]
  clear hlx
  unfold rpv
  clear c0
  have HN : Hid (Nx w (w1.alloc (.cells (rpA x) 63)) b w.heap.size w1.heap.size r mo x) := by
    have b1 := below_alloc (Below.refl w.heap.size w) (.cells (clc zc).toArray 51)
    have b2 := below_alloc (Below.refl w1.heap.size w1) (.cells (rpA x) 63)
    exact Lib.hid ⟨((HM.out.below b1).below hb).below b2, ((BlkW.new _ _ _).below hb).below b2, BlkW.new _ _ _, ((Off.of_below b1).then hb).then b2, Nat.le_refl _⟩
  clear hb hl HM
  go_wp2_with fail
  simp only [show (w1.alloc (.cells #[.int .i64 x.1.slot, .int .i64 x.1.gen, .int .i64 x.1.tag, .int .i64 x.1.num, .bool x.1.mark, .bool x.2] 63)) = w1.alloc (.cells (rpA x) 63) from rfl]
  generalize w1.alloc (.cells (rpA x) 63) = W at HN ⊢
  generalize w.heap.size = q at HN ⊢
  generalize w1.heap.size = xb at HN ⊢
  refine (Bd.Root_yes 0 ⟨by decide, by decide⟩ _).mono ?_
  rintro e w2 ⟨rfl, hb⟩
  replace HN := Lib.hid (HN.out.below hb)
  clear hb
  unfold Bd.ad
  go_upto_region 3 with fail
  have HA := Lib.hid (BlkW.new w2 47 #[.int .i64 0, .int .i64 0, .int .i64 0])
  replace HN := Lib.hid (HN.out.below (below_alloc (Below.refl w2.heap.size w2) (.cells #[.int .i64 0, .int .i64 0, .int .i64 0] 47)))
  generalize w2.alloc (.cells #[.int .i64 0, .int .i64 0, .int .i64 0] 47) = W at HN HA ⊢
  generalize w2.heap.size = ab at HA ⊢
  have hne := BlkW.ne_ HA.out HN.out.hm (by decide)
  have p1 : W.cell? ⟨b, 1, none⟩ = some (.int .i64 (mo.pc : Int)) := HN.out.hm.cell 1
  rw [hp] at p1
  have hz := HN.out.hm.lt
  have f1 : W.frozen? ⟨b, 1, none⟩ = false := HN.out.hm.frozen 1
  have z1 : wrap64 (((3 : Nat) : Int) + 1) = 4 := IntWalk.wrap64_in _ ⟨by decide, by decide⟩
  go_upto_region 4 with fail
  replace HN : Hid (Nx w (W.setCell ⟨b, 1, none⟩ (.int .i64 4)) b q xb r { mo with pc := 4 } x) := Lib.hid (HN.out.puts 1 [.int .i64 4] rfl)
  replace HA : Hid (BlkW (W.setCell ⟨b, 1, none⟩ (.int .i64 4)) ab 47 #[.int .i64 0, .int .i64 0, .int .i64 0]) := Lib.hid (HA.out.far hne _)
  clear p1 f1 hz z1
  generalize W.setCell ⟨b, 1, none⟩ (.int .i64 4) = W at HN HA ⊢
  have p1 : W.cell? ⟨b, 1, none⟩ = some (.int .i64 4) := HN.out.hm.cell 1
  have hz := HN.out.hm.lt
  go_upto_region 15 with fail
  have HB := HN.out.hm.cell 12
  have f12 := HN.out.hm.frozen 12
  refine wp_region_held (S := Rl b xb mo.old x.1.num) (by kernel_rfl) ?_
  replace HN := Lib.hid (HN.out.below (Below.refl _ _).drew)
  have hS : Rl b xb mo.old x.1.num W.drew := HN.out.rl
  clear HA hz p1 HB f12
  show wpAnyH _ _ _ _ _ 27 #[false, false, false, false, false, false, false, false, false, false, false, false, false, false, false, false, false, false, false, false, false, false, false, false, false, false, false] _ W.drew
  generalize W.drew = W at HN hS ⊢
  have c12 : W.cell? ⟨b, 12, none⟩ = some (.bool mo.bad) := HN.out.hm.cell 12
  rw [hb.out] at c12
  refine wpAnyH_take (i := 0) (v := .pointer (some ⟨b, 0, none⟩)) rfl (by kernel_rfl) (by kernel_rfl) (by kernel_rfl) (fun _ _ _ h => h) (Or.inl ⟨by rfl, fun w' _ => by go_simp⟩) hS ?_
  simp only [Act.put, List.getElem_toArray, List.getElem_cons_succ, List.getElem_cons_zero, List.setIfInBounds_toArray, List.set_cons_zero, List.set_cons_succ]
  refine wpAnyH_take (i := 1) (v := .pointer (some ⟨b, 0, none⟩)) rfl (by kernel_rfl) (by kernel_rfl) (by kernel_rfl) (fun _ _ _ h => h) (Or.inl ⟨by rfl, fun w' _ => by go_simp⟩) hS ?_
  simp only [Act.put, List.getElem_toArray, List.getElem_cons_succ, List.getElem_cons_zero, List.setIfInBounds_toArray, List.set_cons_zero, List.set_cons_succ]
  refine wpAnyH_take (i := 2) (v := .pointer (some ⟨b, 0, none⟩)) rfl (by kernel_rfl) (by kernel_rfl) (by kernel_rfl) (fun _ _ _ h => h) (Or.inl ⟨by rfl, fun w' _ => by go_simp⟩) hS ?_
  simp only [Act.put, List.getElem_toArray, List.getElem_cons_succ, List.getElem_cons_zero, List.setIfInBounds_toArray, List.set_cons_zero, List.set_cons_succ]
  refine wpAnyH_take (i := 3) (v := .pointer (some ⟨b, 12, none⟩)) rfl (by kernel_rfl) (by kernel_rfl) (by kernel_rfl) (fun _ _ _ h => h) (Or.inl ⟨by rfl, fun w' _ => by go_simp⟩) hS ?_
  simp only [Act.put, List.getElem_toArray, List.getElem_cons_succ, List.getElem_cons_zero, List.setIfInBounds_toArray, List.set_cons_zero, List.set_cons_succ]
  refine wpAnyH_ready (rs := [4]) (by kernel_rfl) (by simp) ?_
  refine AllReadyH.cons rfl (fun K hK => ?_) AllReadyH.nil
  rw [if_pos (by rfl)]
  go_simp
  refine hK.out _ _ hS (fun _ => ?_)
  clear hK K
  refine wpAnyH_take (i := 5) (v := .bool false) rfl (by kernel_rfl) (by kernel_rfl) (by kernel_rfl) (fun _ _ _ h => h) (Or.inl ⟨by rfl, fun w' _ => by go_simp⟩) hS ?_
  simp only [Act.put, List.getElem_toArray, List.getElem_cons_succ, List.getElem_cons_zero, List.setIfInBounds_toArray, List.set_cons_zero, List.set_cons_succ]
  refine wpAnyH_take (i := 6) (v := .pointer (some ⟨b, 0, none⟩)) rfl (by kernel_rfl) (by kernel_rfl) (by kernel_rfl) (fun _ _ _ h => h) (Or.inl ⟨by rfl, fun w' _ => by go_simp⟩) hS ?_
  simp only [Act.put, List.getElem_toArray, List.getElem_cons_succ, List.getElem_cons_zero, List.setIfInBounds_toArray, List.set_cons_zero, List.set_cons_succ]
  refine wpAnyH_take (i := 7) (v := .pointer (some ⟨b, 0, none⟩)) rfl (by kernel_rfl) (by kernel_rfl) (by kernel_rfl) (fun _ _ _ h => h) (Or.inl ⟨by rfl, fun w' _ => by go_simp⟩) hS ?_
  simp only [Act.put, List.getElem_toArray, List.getElem_cons_succ, List.getElem_cons_zero, List.setIfInBounds_toArray, List.set_cons_zero, List.set_cons_succ]
  refine wpAnyH_take (i := 8) (v := .pointer (some ⟨b, 2, none⟩)) rfl (by kernel_rfl) (by kernel_rfl) (by kernel_rfl) (fun _ _ _ h => h) (Or.inl ⟨by rfl, fun w' _ => by go_simp⟩) hS ?_
  simp only [Act.put, List.getElem_toArray, List.getElem_cons_succ, List.getElem_cons_zero, List.setIfInBounds_toArray, List.set_cons_zero, List.set_cons_succ]
  refine wpAnyH_take (i := 9) (v := .agg (wc mo.old).toArray) rfl (by kernel_rfl) (by kernel_rfl) (by kernel_rfl) (fun _ _ _ h => h) (yieldsIf_load_mid (by rfl) 34 (.tmp 63) rfl b 2 rfl (wc mo.old) _ (fun w' h => h.1) Tryz.underlying34 rfl infoWrd) hS ?_
  simp only [Act.put, List.getElem_toArray, List.getElem_cons_succ, List.getElem_cons_zero, List.setIfInBounds_toArray, List.set_cons_zero, List.set_cons_succ]
  refine wpAnyH_ready (rs := [10]) (by kernel_rfl) (by simp) ?_
  refine AllReadyH.cons rfl (fun K hK => ?_) AllReadyH.nil
  rw [if_pos (by rfl)]
  go_simp
  refine (Nil_any _ _ _ _ _ _).mono ?_
  rintro e wk ⟨rfl, hbk⟩
  rw [show (mo.old.slot == 0) = true from hn]
  replace HN := Lib.hid (HN.out.below hbk)
  refine hK.out _ _ HN.out.rl (fun _ => ?_)
  replace hS := HN.out.rl
  clear hbk hK K
  refine wpAnyH_take (i := 11) (v := .bool false) rfl (by kernel_rfl) (by kernel_rfl) (by kernel_rfl) (fun _ _ _ h => h) (Or.inl ⟨by rfl, fun w' _ => by go_simp⟩) hS ?_
  simp only [Act.put, List.getElem_toArray, List.getElem_cons_succ, List.getElem_cons_zero, List.setIfInBounds_toArray, List.set_cons_zero, List.set_cons_succ]
  refine wpAnyH_take (i := 12) (v := .bool false) rfl (by kernel_rfl) (by kernel_rfl) (by kernel_rfl) (fun _ _ _ h => h) (Or.inl ⟨by rfl, fun w' _ => by go_simp⟩) hS ?_
  simp only [Act.put, List.getElem_toArray, List.getElem_cons_succ, List.getElem_cons_zero, List.setIfInBounds_toArray, List.set_cons_zero, List.set_cons_succ]
  refine wpAnyH_take (i := 13) (v := undef) rfl (by kernel_rfl) (by kernel_rfl) (by kernel_rfl) (fun _ _ _ h => h) (Or.inr ⟨by rfl, rfl⟩) hS ?_
  simp only [Act.put, List.getElem_toArray, List.getElem_cons_succ, List.getElem_cons_zero, List.setIfInBounds_toArray, List.set_cons_zero, List.set_cons_succ]
  refine wpAnyH_take (i := 14) (v := undef) rfl (by kernel_rfl) (by kernel_rfl) (by kernel_rfl) (fun _ _ _ h => h) (Or.inr ⟨by rfl, rfl⟩) hS ?_
  simp only [Act.put, List.getElem_toArray, List.getElem_cons_succ, List.getElem_cons_zero, List.setIfInBounds_toArray, List.set_cons_zero, List.set_cons_succ]
  refine wpAnyH_take (i := 15) (v := undef) rfl (by kernel_rfl) (by kernel_rfl) (by kernel_rfl) (fun _ _ _ h => h) (Or.inr ⟨by rfl, rfl⟩) hS ?_
  simp only [Act.put, List.getElem_toArray, List.getElem_cons_succ, List.getElem_cons_zero, List.setIfInBounds_toArray, List.set_cons_zero, List.set_cons_succ]
  refine wpAnyH_take (i := 16) (v := undef) rfl (by kernel_rfl) (by kernel_rfl) (by kernel_rfl) (fun _ _ _ h => h) (Or.inr ⟨by rfl, rfl⟩) hS ?_
  simp only [Act.put, List.getElem_toArray, List.getElem_cons_succ, List.getElem_cons_zero, List.setIfInBounds_toArray, List.set_cons_zero, List.set_cons_succ]
  refine wpAnyH_take (i := 17) (v := undef) rfl (by kernel_rfl) (by kernel_rfl) (by kernel_rfl) (fun _ _ _ h => h) (Or.inr ⟨by rfl, rfl⟩) hS ?_
  simp only [Act.put, List.getElem_toArray, List.getElem_cons_succ, List.getElem_cons_zero, List.setIfInBounds_toArray, List.set_cons_zero, List.set_cons_succ]
  refine wpAnyH_take (i := 18) (v := undef) rfl (by kernel_rfl) (by kernel_rfl) (by kernel_rfl) (fun _ _ _ h => h) (Or.inr ⟨by rfl, rfl⟩) hS ?_
  simp only [Act.put, List.getElem_toArray, List.getElem_cons_succ, List.getElem_cons_zero, List.setIfInBounds_toArray, List.set_cons_zero, List.set_cons_succ]
  refine wpAnyH_take (i := 19) (v := undef) rfl (by kernel_rfl) (by kernel_rfl) (by kernel_rfl) (fun _ _ _ h => h) (Or.inr ⟨by rfl, rfl⟩) hS ?_
  simp only [Act.put, List.getElem_toArray, List.getElem_cons_succ, List.getElem_cons_zero, List.setIfInBounds_toArray, List.set_cons_zero, List.set_cons_succ]
  refine wpAnyH_take (i := 20) (v := undef) rfl (by kernel_rfl) (by kernel_rfl) (by kernel_rfl) (fun _ _ _ h => h) (Or.inr ⟨by rfl, rfl⟩) hS ?_
  simp only [Act.put, List.getElem_toArray, List.getElem_cons_succ, List.getElem_cons_zero, List.setIfInBounds_toArray, List.set_cons_zero, List.set_cons_succ]
  refine wpAnyH_take (i := 21) (v := undef) rfl (by kernel_rfl) (by kernel_rfl) (by kernel_rfl) (fun _ _ _ h => h) (Or.inr ⟨by rfl, rfl⟩) hS ?_
  simp only [Act.put, List.getElem_toArray, List.getElem_cons_succ, List.getElem_cons_zero, List.setIfInBounds_toArray, List.set_cons_zero, List.set_cons_succ]
  refine wpAnyH_take (i := 22) (v := .bool false) rfl (by kernel_rfl) (by kernel_rfl) (by kernel_rfl) (fun _ _ _ h => h) (Or.inl ⟨by rfl, fun w' _ => by go_simp⟩) hS ?_
  simp only [Act.put, List.getElem_toArray, List.getElem_cons_succ, List.getElem_cons_zero, List.setIfInBounds_toArray, List.set_cons_zero, List.set_cons_succ]
  refine wpAnyH_take (i := 23) (v := .bool false) rfl (by kernel_rfl) (by kernel_rfl) (by kernel_rfl) (fun _ _ _ h => h) (Or.inl ⟨by rfl, fun w' _ => by go_simp⟩) hS ?_
  simp only [Act.put, List.getElem_toArray, List.getElem_cons_succ, List.getElem_cons_zero, List.setIfInBounds_toArray, List.set_cons_zero, List.set_cons_succ]
  refine wpAnyH_take (i := 24) (v := .pointer (some ⟨b, 0, none⟩)) rfl (by kernel_rfl) (by kernel_rfl) (by kernel_rfl) (fun _ _ _ h => h) (Or.inl ⟨by rfl, fun w' _ => by go_simp⟩) hS ?_
  simp only [Act.put, List.getElem_toArray, List.getElem_cons_succ, List.getElem_cons_zero, List.setIfInBounds_toArray, List.set_cons_zero, List.set_cons_succ]
  refine wpAnyH_take (i := 25) (v := .pointer (some ⟨b, 12, none⟩)) rfl (by kernel_rfl) (by kernel_rfl) (by kernel_rfl) (fun _ _ _ h => h) (Or.inl ⟨by rfl, fun w' _ => by go_simp⟩) hS ?_
  simp only [Act.put, List.getElem_toArray, List.getElem_cons_succ, List.getElem_cons_zero, List.setIfInBounds_toArray, List.set_cons_zero, List.set_cons_succ]
  generalize wk = W0 at HN hS ⊢
  have c12 : W0.cell? ⟨b, 12, none⟩ = some (.bool mo.bad) := HN.out.hm.cell 12
  have f12 : W0.frozen? ⟨b, 12, none⟩ = false := HN.out.hm.frozen 12
  have hz := HN.out.hm.lt
  refine wpAnyH_ready (rs := [26]) (by kernel_rfl) (by simp) ?_
  refine AllReadyH.cons rfl (fun K hK => ?_) AllReadyH.nil
  rw [if_pos (by rfl)]
  go_simp
  have HN2 : Hid (Nx w (W0.setCell ⟨b, 12, none⟩ (.bool (false))) b q xb r { mo with pc := 4, bad := false } x) := Lib.hid (HN.out.puts 12 [.bool (false)] rfl)
  refine hK.out _ _ (Nx.rl (mo := { mo with bad := false }) HN2.out) (fun _ => ?_)
  refine wpAnyH_done (by kernel_rfl) ?_ _
  clear hK K hS HN c12 f12 hz
  replace HN := HN2
  clear HN2
  generalize W0.setCell ⟨b, 12, none⟩ (.bool (false)) = W at HN ⊢
  go_upto_region 16 with fail
  go_wp2_with (first | (refine wpList_build rfl 51 _ rfl (.agg (clc (cl 8)).toArray) (by kernel_rfl) ?_) | (refine wp_store_q HN.out rfl (.tmp 2) (.tmp 81) rfl (by rfl) (cl 8) (by rfl) ?_; intro W1 R1; have R1 := Lib.hid R1))
  exact bodyPost_ret (v := clv (cl 8)) (results_cell Tryz.results41 _ (by rfl) R1.out.load) rfl ⟨rfl, Lib.hid R1.out.hm, Lib.hid R1.out.off⟩
set_option maxRecDepth 100000 in
set_option maxHeartbeats 1000000 in
theorem next_3bad (h : RtAt w r sv fv nv m) (hm : BlkW w b 36 (moc r mo).toArray) (hp : mo.pc = 3) (hlx : m.st.last = x) (hb : Hid (mo.bad = true)) :
    Calls Tryz.prog 41 #[.pointer (some ⟨b, 0, none⟩)] w (NPost w b r { mo with pc := 4, bad := true } (cl 8)) := by
  have hl := Lib.hid h
  have hz := hm.lt
  have c0 : w.cell? ⟨b, 0, none⟩ = some (.pointer (some ⟨r, 0, none⟩)) := hm.cell 0
  have HM := Lib.hid hm
  clear h hm
  go_enter Tryz.func41, Tryz.ntmps41
  go_wp2_with fail
  refine (Reply_is (hl.out.below (below_alloc (Below.refl _ _) _))).mono ?_
  rintro e w1 ⟨rfl, hb⟩
  rw [hlx]
  clear hlx
  unfold rpv
  clear c0
  have HN : Hid (Nx w (w1.alloc (.cells (rpA x) 63)) b w.heap.size w1.heap.size r mo x) := by
    have b1 := below_alloc (Below.refl w.heap.size w) (.cells (clc zc).toArray 51)
    have b2 := below_alloc (Below.refl w1.heap.size w1) (.cells (rpA x) 63)
    exact Lib.hid ⟨((HM.out.below b1).below hb).below b2, ((BlkW.new _ _ _).below hb).below b2, BlkW.new _ _ _, ((Off.of_below b1).then hb).then b2, Nat.le_refl _⟩
  clear hb hl HM
  go_wp2_with fail
  simp only [show (w1.alloc (.cells #[.int .i64 x.1.slot, .int .i64 x.1.gen, .int .i64 x.1.tag, .int .i64 x.1.num, .bool x.1.mark, .bool x.2] 63)) = w1.alloc (.cells (rpA x) 63) from rfl]
  generalize w1.alloc (.cells (rpA x) 63) = W at HN ⊢
  generalize w.heap.size = q at HN ⊢
  generalize w1.heap.size = xb at HN ⊢
  refine (Bd.Root_yes 0 ⟨by decide, by decide⟩ _).mono ?_
  rintro e w2 ⟨rfl, hb⟩
  replace HN := Lib.hid (HN.out.below hb)
  clear hb
  unfold Bd.ad
  go_upto_region 3 with fail
  have HA := Lib.hid (BlkW.new w2 47 #[.int .i64 0, .int .i64 0, .int .i64 0])
  replace HN := Lib.hid (HN.out.below (below_alloc (Below.refl w2.heap.size w2) (.cells #[.int .i64 0, .int .i64 0, .int .i64 0] 47)))
  generalize w2.alloc (.cells #[.int .i64 0, .int .i64 0, .int .i64 0] 47) = W at HN HA ⊢
  generalize w2.heap.size = ab at HA ⊢
  have hne := BlkW.ne_ HA.out HN.out.hm (by decide)
  have p1 : W.cell? ⟨b, 1, none⟩ = some (.int .i64 (mo.pc : Int)) := HN.out.hm.cell 1
  rw [hp] at p1
  have hz := HN.out.hm.lt
  have f1 : W.frozen? ⟨b, 1, none⟩ = false := HN.out.hm.frozen 1
  have z1 : wrap64 (((3 : Nat) : Int) + 1) = 4 := IntWalk.wrap64_in _ ⟨by decide, by decide⟩
  go_upto_region 4 with fail
  replace HN : Hid (Nx w (W.setCell ⟨b, 1, none⟩ (.int .i64 4)) b q xb r { mo with pc := 4 } x) := Lib.hid (HN.out.puts 1 [.int .i64 4] rfl)
  replace HA : Hid (BlkW (W.setCell ⟨b, 1, none⟩ (.int .i64 4)) ab 47 #[.int .i64 0, .int .i64 0, .int .i64 0]) := Lib.hid (HA.out.far hne _)
  clear p1 f1 hz z1
  generalize W.setCell ⟨b, 1, none⟩ (.int .i64 4) = W at HN HA ⊢
  have p1 : W.cell? ⟨b, 1, none⟩ = some (.int .i64 4) := HN.out.hm.cell 1
  have hz := HN.out.hm.lt
  go_upto_region 15 with fail
  have HB := HN.out.hm.cell 12
  have f12 := HN.out.hm.frozen 12
  refine wp_region_held (S := Rl b xb mo.old x.1.num) (by kernel_rfl) ?_
  replace HN := Lib.hid (HN.out.below (Below.refl _ _).drew)
  have hS : Rl b xb mo.old x.1.num W.drew := HN.out.rl
  clear HA hz p1 HB f12
  show wpAnyH _ _ _ _ _ 27 #[false, false, false, false, false, false, false, false, false, false, false, false, false, false, false, false, false, false, false, false, false, false, false, false, false, false, false] _ W.drew
  generalize W.drew = W at HN hS ⊢
  have c12 : W.cell? ⟨b, 12, none⟩ = some (.bool mo.bad) := HN.out.hm.cell 12
  rw [hb.out] at c12
  refine wpAnyH_take (i := 0) (v := .pointer (some ⟨b, 0, none⟩)) rfl (by kernel_rfl) (by kernel_rfl) (by kernel_rfl) (fun _ _ _ h => h) (Or.inl ⟨by rfl, fun w' _ => by go_simp⟩) hS ?_
  simp only [Act.put, List.getElem_toArray, List.getElem_cons_succ, List.getElem_cons_zero, List.setIfInBounds_toArray, List.set_cons_zero, List.set_cons_succ]
  refine wpAnyH_take (i := 1) (v := .pointer (some ⟨b, 0, none⟩)) rfl (by kernel_rfl) (by kernel_rfl) (by kernel_rfl) (fun _ _ _ h => h) (Or.inl ⟨by rfl, fun w' _ => by go_simp⟩) hS ?_
  simp only [Act.put, List.getElem_toArray, List.getElem_cons_succ, List.getElem_cons_zero, List.setIfInBounds_toArray, List.set_cons_zero, List.set_cons_succ]
  refine wpAnyH_take (i := 2) (v := .pointer (some ⟨b, 0, none⟩)) rfl (by kernel_rfl) (by kernel_rfl) (by kernel_rfl) (fun _ _ _ h => h) (Or.inl ⟨by rfl, fun w' _ => by go_simp⟩) hS ?_
  simp only [Act.put, List.getElem_toArray, List.getElem_cons_succ, List.getElem_cons_zero, List.setIfInBounds_toArray, List.set_cons_zero, List.set_cons_succ]
  refine wpAnyH_take (i := 3) (v := .pointer (some ⟨b, 12, none⟩)) rfl (by kernel_rfl) (by kernel_rfl) (by kernel_rfl) (fun _ _ _ h => h) (Or.inl ⟨by rfl, fun w' _ => by go_simp⟩) hS ?_
  simp only [Act.put, List.getElem_toArray, List.getElem_cons_succ, List.getElem_cons_zero, List.setIfInBounds_toArray, List.set_cons_zero, List.set_cons_succ]
  refine wpAnyH_ready (rs := [4]) (by kernel_rfl) (by simp) ?_
  refine AllReadyH.cons rfl (fun K hK => ?_) AllReadyH.nil
  rw [if_pos (by rfl)]
  go_simp
  refine hK.out _ _ hS (fun _ => ?_)
  clear hK K
  refine wpAnyH_take (i := 5) (v := .bool true) rfl (by kernel_rfl) (by kernel_rfl) (by kernel_rfl) (fun _ _ _ h => h) (Or.inl ⟨by rfl, fun w' _ => by go_simp⟩) hS ?_
  simp only [Act.put, List.getElem_toArray, List.getElem_cons_succ, List.getElem_cons_zero, List.setIfInBounds_toArray, List.set_cons_zero, List.set_cons_succ]
  refine wpAnyH_take (i := 6) (v := undef) rfl (by kernel_rfl) (by kernel_rfl) (by kernel_rfl) (fun _ _ _ h => h) (Or.inr ⟨by rfl, rfl⟩) hS ?_
  simp only [Act.put, List.getElem_toArray, List.getElem_cons_succ, List.getElem_cons_zero, List.setIfInBounds_toArray, List.set_cons_zero, List.set_cons_succ]
  refine wpAnyH_take (i := 7) (v := undef) rfl (by kernel_rfl) (by kernel_rfl) (by kernel_rfl) (fun _ _ _ h => h) (Or.inr ⟨by rfl, rfl⟩) hS ?_
  simp only [Act.put, List.getElem_toArray, List.getElem_cons_succ, List.getElem_cons_zero, List.setIfInBounds_toArray, List.set_cons_zero, List.set_cons_succ]
  refine wpAnyH_take (i := 8) (v := undef) rfl (by kernel_rfl) (by kernel_rfl) (by kernel_rfl) (fun _ _ _ h => h) (Or.inr ⟨by rfl, rfl⟩) hS ?_
  simp only [Act.put, List.getElem_toArray, List.getElem_cons_succ, List.getElem_cons_zero, List.setIfInBounds_toArray, List.set_cons_zero, List.set_cons_succ]
  refine wpAnyH_take (i := 9) (v := undef) rfl (by kernel_rfl) (by kernel_rfl) (by kernel_rfl) (fun _ _ _ h => h) (Or.inr ⟨by rfl, rfl⟩) hS ?_
  simp only [Act.put, List.getElem_toArray, List.getElem_cons_succ, List.getElem_cons_zero, List.setIfInBounds_toArray, List.set_cons_zero, List.set_cons_succ]
  refine wpAnyH_take (i := 10) (v := undef) rfl (by kernel_rfl) (by kernel_rfl) (by kernel_rfl) (fun _ _ _ h => h) (Or.inr ⟨by rfl, rfl⟩) hS ?_
  simp only [Act.put, List.getElem_toArray, List.getElem_cons_succ, List.getElem_cons_zero, List.setIfInBounds_toArray, List.set_cons_zero, List.set_cons_succ]
  refine wpAnyH_take (i := 11) (v := undef) rfl (by kernel_rfl) (by kernel_rfl) (by kernel_rfl) (fun _ _ _ h => h) (Or.inr ⟨by rfl, rfl⟩) hS ?_
  simp only [Act.put, List.getElem_toArray, List.getElem_cons_succ, List.getElem_cons_zero, List.setIfInBounds_toArray, List.set_cons_zero, List.set_cons_succ]
  refine wpAnyH_take (i := 12) (v := undef) rfl (by kernel_rfl) (by kernel_rfl) (by kernel_rfl) (fun _ _ _ h => h) (Or.inr ⟨by rfl, rfl⟩) hS ?_
  simp only [Act.put, List.getElem_toArray, List.getElem_cons_succ, List.getElem_cons_zero, List.setIfInBounds_toArray, List.set_cons_zero, List.set_cons_succ]
  refine wpAnyH_take (i := 13) (v := undef) rfl (by kernel_rfl) (by kernel_rfl) (by kernel_rfl) (fun _ _ _ h => h) (Or.inr ⟨by rfl, rfl⟩) hS ?_
  simp only [Act.put, List.getElem_toArray, List.getElem_cons_succ, List.getElem_cons_zero, List.setIfInBounds_toArray, List.set_cons_zero, List.set_cons_succ]
  refine wpAnyH_take (i := 14) (v := undef) rfl (by kernel_rfl) (by kernel_rfl) (by kernel_rfl) (fun _ _ _ h => h) (Or.inr ⟨by rfl, rfl⟩) hS ?_
  simp only [Act.put, List.getElem_toArray, List.getElem_cons_succ, List.getElem_cons_zero, List.setIfInBounds_toArray, List.set_cons_zero, List.set_cons_succ]
  refine wpAnyH_take (i := 15) (v := undef) rfl (by kernel_rfl) (by kernel_rfl) (by kernel_rfl) (fun _ _ _ h => h) (Or.inr ⟨by rfl, rfl⟩) hS ?_
  simp only [Act.put, List.getElem_toArray, List.getElem_cons_succ, List.getElem_cons_zero, List.setIfInBounds_toArray, List.set_cons_zero, List.set_cons_succ]
  refine wpAnyH_take (i := 16) (v := undef) rfl (by kernel_rfl) (by kernel_rfl) (by kernel_rfl) (fun _ _ _ h => h) (Or.inr ⟨by rfl, rfl⟩) hS ?_
  simp only [Act.put, List.getElem_toArray, List.getElem_cons_succ, List.getElem_cons_zero, List.setIfInBounds_toArray, List.set_cons_zero, List.set_cons_succ]
  refine wpAnyH_take (i := 17) (v := undef) rfl (by kernel_rfl) (by kernel_rfl) (by kernel_rfl) (fun _ _ _ h => h) (Or.inr ⟨by rfl, rfl⟩) hS ?_
  simp only [Act.put, List.getElem_toArray, List.getElem_cons_succ, List.getElem_cons_zero, List.setIfInBounds_toArray, List.set_cons_zero, List.set_cons_succ]
  refine wpAnyH_take (i := 18) (v := undef) rfl (by kernel_rfl) (by kernel_rfl) (by kernel_rfl) (fun _ _ _ h => h) (Or.inr ⟨by rfl, rfl⟩) hS ?_
  simp only [Act.put, List.getElem_toArray, List.getElem_cons_succ, List.getElem_cons_zero, List.setIfInBounds_toArray, List.set_cons_zero, List.set_cons_succ]
  refine wpAnyH_take (i := 19) (v := undef) rfl (by kernel_rfl) (by kernel_rfl) (by kernel_rfl) (fun _ _ _ h => h) (Or.inr ⟨by rfl, rfl⟩) hS ?_
  simp only [Act.put, List.getElem_toArray, List.getElem_cons_succ, List.getElem_cons_zero, List.setIfInBounds_toArray, List.set_cons_zero, List.set_cons_succ]
  refine wpAnyH_take (i := 20) (v := undef) rfl (by kernel_rfl) (by kernel_rfl) (by kernel_rfl) (fun _ _ _ h => h) (Or.inr ⟨by rfl, rfl⟩) hS ?_
  simp only [Act.put, List.getElem_toArray, List.getElem_cons_succ, List.getElem_cons_zero, List.setIfInBounds_toArray, List.set_cons_zero, List.set_cons_succ]
  refine wpAnyH_take (i := 21) (v := undef) rfl (by kernel_rfl) (by kernel_rfl) (by kernel_rfl) (fun _ _ _ h => h) (Or.inr ⟨by rfl, rfl⟩) hS ?_
  simp only [Act.put, List.getElem_toArray, List.getElem_cons_succ, List.getElem_cons_zero, List.setIfInBounds_toArray, List.set_cons_zero, List.set_cons_succ]
  refine wpAnyH_take (i := 22) (v := undef) rfl (by kernel_rfl) (by kernel_rfl) (by kernel_rfl) (fun _ _ _ h => h) (Or.inr ⟨by rfl, rfl⟩) hS ?_
  simp only [Act.put, List.getElem_toArray, List.getElem_cons_succ, List.getElem_cons_zero, List.setIfInBounds_toArray, List.set_cons_zero, List.set_cons_succ]
  refine wpAnyH_take (i := 23) (v := .bool true) rfl (by kernel_rfl) (by kernel_rfl) (by kernel_rfl) (fun _ _ _ h => h) (Or.inl ⟨by rfl, fun w' _ => by go_simp⟩) hS ?_
  simp only [Act.put, List.getElem_toArray, List.getElem_cons_succ, List.getElem_cons_zero, List.setIfInBounds_toArray, List.set_cons_zero, List.set_cons_succ]
  refine wpAnyH_take (i := 24) (v := .pointer (some ⟨b, 0, none⟩)) rfl (by kernel_rfl) (by kernel_rfl) (by kernel_rfl) (fun _ _ _ h => h) (Or.inl ⟨by rfl, fun w' _ => by go_simp⟩) hS ?_
  simp only [Act.put, List.getElem_toArray, List.getElem_cons_succ, List.getElem_cons_zero, List.setIfInBounds_toArray, List.set_cons_zero, List.set_cons_succ]
  refine wpAnyH_take (i := 25) (v := .pointer (some ⟨b, 12, none⟩)) rfl (by kernel_rfl) (by kernel_rfl) (by kernel_rfl) (fun _ _ _ h => h) (Or.inl ⟨by rfl, fun w' _ => by go_simp⟩) hS ?_
  simp only [Act.put, List.getElem_toArray, List.getElem_cons_succ, List.getElem_cons_zero, List.setIfInBounds_toArray, List.set_cons_zero, List.set_cons_succ]
  generalize W = W0 at HN hS ⊢
  have c12 : W0.cell? ⟨b, 12, none⟩ = some (.bool mo.bad) := HN.out.hm.cell 12
  have f12 : W0.frozen? ⟨b, 12, none⟩ = false := HN.out.hm.frozen 12
  have hz := HN.out.hm.lt
  refine wpAnyH_ready (rs := [26]) (by kernel_rfl) (by simp) ?_
  refine AllReadyH.cons rfl (fun K hK => ?_) AllReadyH.nil
  rw [if_pos (by rfl)]
  go_simp
  have HN2 : Hid (Nx w (W0.setCell ⟨b, 12, none⟩ (.bool (true))) b q xb r { mo with pc := 4, bad := true } x) := Lib.hid (HN.out.puts 12 [.bool (true)] rfl)
  refine hK.out _ _ (Nx.rl (mo := { mo with bad := true }) HN2.out) (fun _ => ?_)
  refine wpAnyH_done (by kernel_rfl) ?_ _
  clear hK K hS HN c12 f12 hz
  replace HN := HN2
  clear HN2
  generalize W0.setCell ⟨b, 12, none⟩ (.bool (true)) = W at HN ⊢
  go_upto_region 16 with fail
  go_wp2_with (first | (refine wpList_build rfl 51 _ rfl (.agg (clc (cl 8)).toArray) (by kernel_rfl) ?_) | (refine wp_store_q HN.out rfl (.tmp 2) (.tmp 81) rfl (by rfl) (cl 8) (by rfl) ?_; intro W1 R1; have R1 := Lib.hid R1))
  exact bodyPost_ret (v := clv (cl 8)) (results_cell Tryz.results41 _ (by rfl) R1.out.load) rfl ⟨rfl, Lib.hid R1.out.hm, Lib.hid R1.out.off⟩
end
end Go.Proofs.YtjilhncnbkaebaaGreatDoor
