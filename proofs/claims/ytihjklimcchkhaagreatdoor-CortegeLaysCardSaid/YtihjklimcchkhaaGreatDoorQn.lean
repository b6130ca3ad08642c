/- Worker.step. Of cortege's workers (ported from XPn). A template (fill.py). -/
import Derived.Test.YtihjklimcchkhaaGreatDoorQM
import Derived.Deep.CutRange
namespace Go.Proofs.YtihjklimcchkhaaGreatDoor.Cq
open Go.RowKit Go.Extern.Stop Go.Stop Go.Extern Go.Sort
section
variable {W W' w : World} {E : Flt → Addr} {B p bs bb : Nat} {t : St} {rs : List (Nat × Rt)} {bx bx' : Bx} {O O' : Nat → Prop}
set_option maxRecDepth 100000 in
set_option maxHeartbeats 1000000 in
theorem wstep_is {i g r ob oc : Nat} {x : Rt × Wr} (h : Cw W w E B p bs bb t rs bx) (hi : i < rs.length) (hr : rs[i] = (r, x.1)) (hw : WkAt bx B O g r ob oc x.2) {R : Rt × Wr} (hb : WOk 199 x) (hR : wto 199 x = R)
    (ht : t.steps < 900000) (hc : R.1.st.busy = true → t.can R.1.st.acc = true ∧ GoOk R.1 (t.step R.1.st.acc).2) :
    Calls Tryz.prog 44 #[.pointer (some ⟨g, 0, none⟩), .pointer (some ⟨p, 0, none⟩)] W (SPw w E B p bs bb t rs i bx O g r ob oc R) := by
  have HL : Hid (LpW w E B p bs bb t rs i bx O g r ob oc R 199 W) := by
    refine Lib.hid ⟨x, bx, O, ?_, hw, hb, hR, Left.refl _ _, fun b e => .inl e⟩
    rw [← hr, List.set_getElem_self]
    exact h
  clear h hw hb hR hr
  replace hc := Lib.hid hc
  go_enter Tryz.func44, Tryz.ntmps44
  go_wp2
  go_loopw [5] (fun vi wr => ∃ k : Nat, k ≤ 199 ∧ vi = .int .i64 (k : Int) ∧ LpW w E B p bs bb t rs i bx O g r ob oc R (199 - k) wr) (fun vi _ => 200 - (intOf vi).toNat)
  case atStart => exact ⟨0, Nat.zero_le _, rfl, HL.out⟩
  case round =>
    clear HL
    obtain ⟨k, hk, rfl, y, bx1, O1, hy, hw1, hok, hto, hlf, hO⟩ := hrel
    obtain ⟨jp, sv, w1, w2, w3, w4, w5, w6, w7, w8, w9⟩ := hw1
    have hm := hy.get w1
    have HBY : Hid (Calls Tryz.prog 17 #[.pointer (some ⟨r, 0, none⟩)] wr fun e w' => e = .returned (.bool y.1.st.busy) ∧ wr = w') := Lib.hid (hy.Busy_at hi)
    have p0 : wr.cell? ⟨g, 0, none⟩ = some (.pointer (some ⟨r, 0, none⟩)) := hm.cell 0
    have p1 : wr.cell? ⟨g, 1, none⟩ = some (.slice (some ⟨ob, 0, none⟩) y.2.ops.length oc) := hm.cell 1
    have p2 : wr.cell? ⟨g, 2, none⟩ = some (.pointer jp) := hm.cell 2
    have p3 : wr.cell? ⟨g, 3, none⟩ = some (.bool y.2.inn) := hm.cell 3
    have p4 : wr.cell? ⟨g, 4, none⟩ = some sv := hm.cell 4
    have fz : ∀ o, wr.frozen? ⟨g, o, none⟩ = false := hm.frozen
    have hzg := hm.lt
    have HY := Lib.hid hy
    have HOK := Lib.hid hok
    have HTO := Lib.hid hto
    have HLF := Lib.hid hlf
    have HO := Lib.hid hO
    have HW1 := Lib.hid w1
    have HW := Lib.hid (show WkRest bx1 B O1 g ob oc jp sv y.2 from ⟨w2, w3, w4, w5, w6, w7, w8, w9⟩)
    clear hy hok hto hlf hO w1 w2 w3 w4 w5 w6 w7 w8 w9 hm
    have hk12 : (k : Int) < 200 := by omega
    go_wp2_with fail
    refine HBY.out.mono ?_
    rintro e w1 ⟨rfl, rfl⟩
    cases hbz : y.1.st.busy with
    | true =>
      have ea : y = R := (wto_over (by unfold wover; rw [hbz]; rfl)).symm.trans HTO.out
      clear HTO HOK p1 p2 p3 p4 fz
      subst ea
      go_wp2_with fail
      refine (HY.out.Next_at hi hbz).mono ?_
      rintro e w2 ⟨rfl, h1⟩
      replace HY := Lib.hid h1.out
      clear h1 p0 hzg
      unfold aav
      go_upto_region 27 with fail
      have HA : Hid (BlkW (w2.alloc (.cells #[.int .i64 y.1.st.acc.kind, .int .i64 y.1.st.acc.s, .int .i64 y.1.st.acc.g, .int .i64 y.1.st.acc.f, .int .i64 y.1.st.acc.old.slot, .int .i64 y.1.st.acc.old.gen, .int .i64 y.1.st.acc.old.tag, .int .i64 y.1.st.acc.old.num, .bool y.1.st.acc.old.mark, .int .i64 y.1.st.acc.new.slot, .int .i64 y.1.st.acc.new.gen, .int .i64 y.1.st.acc.new.tag, .int .i64 y.1.st.acc.new.num, .bool y.1.st.acc.new.mark] 67)) w2.heap.size 67 #[.int .i64 y.1.st.acc.kind, .int .i64 y.1.st.acc.s, .int .i64 y.1.st.acc.g, .int .i64 y.1.st.acc.f, .int .i64 y.1.st.acc.old.slot, .int .i64 y.1.st.acc.old.gen, .int .i64 y.1.st.acc.old.tag, .int .i64 y.1.st.acc.old.num, .bool y.1.st.acc.old.mark, .int .i64 y.1.st.acc.new.slot, .int .i64 y.1.st.acc.new.gen, .int .i64 y.1.st.acc.new.tag, .int .i64 y.1.st.acc.new.num, .bool y.1.st.acc.new.mark]) := Lib.hid (BlkW.new _ _ _)
      replace HY := Lib.hid (HY.out.alloc (.cells #[.int .i64 y.1.st.acc.kind, .int .i64 y.1.st.acc.s, .int .i64 y.1.st.acc.g, .int .i64 y.1.st.acc.f, .int .i64 y.1.st.acc.old.slot, .int .i64 y.1.st.acc.old.gen, .int .i64 y.1.st.acc.old.tag, .int .i64 y.1.st.acc.old.num, .bool y.1.st.acc.old.mark, .int .i64 y.1.st.acc.new.slot, .int .i64 y.1.st.acc.new.gen, .int .i64 y.1.st.acc.new.tag, .int .i64 y.1.st.acc.new.num, .bool y.1.st.acc.new.mark] 67))
      generalize w2.alloc (.cells #[.int .i64 y.1.st.acc.kind, .int .i64 y.1.st.acc.s, .int .i64 y.1.st.acc.g, .int .i64 y.1.st.acc.f, .int .i64 y.1.st.acc.old.slot, .int .i64 y.1.st.acc.old.gen, .int .i64 y.1.st.acc.old.tag, .int .i64 y.1.st.acc.old.num, .bool y.1.st.acc.old.mark, .int .i64 y.1.st.acc.new.slot, .int .i64 y.1.st.acc.new.gen, .int .i64 y.1.st.acc.new.tag, .int .i64 y.1.st.acc.new.num, .bool y.1.st.acc.new.mark] 67) = W2 at HA HY ⊢
      generalize w2.heap.size = ab at HA ⊢
      have hab := HA.out.lt
      obtain ⟨c0, c1, c2, c3, c4, c5, c6, c7, c8, c9, c10, c11, c12, c13⟩ := blk14p HA.out
      go_wp2_with fail
      clear c0 c1 c2 c3 c4 c5 c6 c7 c8 c9 c10 c11 c12 c13 hab HA
      refine (HY.out.Do ht y.1.st.acc (hc.out hbz).1).mono ?_
      rintro e w3 ⟨rfl, h1⟩
      clear HY
      unfold rpv
      obtain ⟨x, hx⟩ : ∃ x, (t.step y.1.st.acc).2 = x := ⟨_, rfl⟩
      rw [hx]
      replace hx := Lib.hid hx
      go_upto_region 28 with fail
      have hxn : bx1 w3.heap.size = none := by
        cases hq : bx1 w3.heap.size with
        | none => rfl
        | some v => exact absurd (h1.out.get (T := v.1) (cs := v.2) hq).lt (Nat.lt_irrefl _)
      have HY := Lib.hid ((h1.out.new 63 #[.int .i64 x.1.slot, .int .i64 x.1.gen, .int .i64 x.1.tag, .int .i64 x.1.num, .bool x.1.mark, .bool x.2] (by decide) (by decide) (by decide)).drew)
      have HXN := Lib.hid hxn
      clear h1 hxn
      refine wp_region_held (S := fun w' => w'.cell? ⟨g, 0, none⟩ = some (.pointer (some ⟨r, 0, none⟩)) ∧ w'.rangeAt w3.heap.size 0 (rpc x)) (by kernel_rfl) ?_
      show wpAnyH _ _ _ _ _ 12 #[false, false, false, false, false, false, false, false, false, false, false, false] _ (w3.alloc (.cells #[.int .i64 x.1.slot, .int .i64 x.1.gen, .int .i64 x.1.tag, .int .i64 x.1.num, .bool x.1.mark, .bool x.2] 63)).drew
      generalize (w3.alloc (.cells #[.int .i64 x.1.slot, .int .i64 x.1.gen, .int .i64 x.1.tag, .int .i64 x.1.num, .bool x.1.mark, .bool x.2] 63)).drew = W3 at HY ⊢
      generalize w3.heap.size = xb at HY HXN ⊢
      have hgx : g ≠ xb := fun e => by have h := HXN.out; rw [← e, HW1.out] at h; cases h
      have HG : Hid ((bx1.put xb 63 #[.int .i64 x.1.slot, .int .i64 x.1.gen, .int .i64 x.1.tag, .int .i64 x.1.num, .bool x.1.mark, .bool x.2]) g = _) := Lib.hid ((Bx.put_ne _ _ _ hgx).trans HW1.out)
      have HXB : Hid ((bx1.put xb 63 #[.int .i64 x.1.slot, .int .i64 x.1.gen, .int .i64 x.1.tag, .int .i64 x.1.num, .bool x.1.mark, .bool x.2]) xb = some (63, (rpc x).toArray)) := Lib.hid (Bx.put_self ..)
      have hS : W3.cell? ⟨g, 0, none⟩ = some (.pointer (some ⟨r, 0, none⟩)) ∧ W3.rangeAt xb 0 (rpc x) := ⟨(HY.out.get HG.out).cell 0, blkA_range (HY.out.get HXB.out) 0 _ (by kernel_rfl)⟩
      refine wpAnyH_take (i := 0) (v := .nilIface) rfl (by kernel_rfl) (by kernel_rfl) (by kernel_rfl) (fun _ _ _ h => h) (Or.inl ⟨by rfl, fun w' _ => by go_simp⟩) hS ?_
      simp only [Act.put, List.getElem_toArray, List.getElem_cons_succ, List.getElem_cons_zero, List.setIfInBounds_toArray, List.set_cons_zero, List.set_cons_succ]
      refine wpAnyH_take (i := 1) (v := .bool true) rfl (by kernel_rfl) (by kernel_rfl) (by kernel_rfl) (fun _ _ _ h => h) (Or.inl ⟨by rfl, fun w' _ => by go_simp⟩) hS ?_
      simp only [Act.put, List.getElem_toArray, List.getElem_cons_succ, List.getElem_cons_zero, List.setIfInBounds_toArray, List.set_cons_zero, List.set_cons_succ]
      refine wpAnyH_take (i := 2) (v := .bool true) rfl (by kernel_rfl) (by kernel_rfl) (by kernel_rfl) (fun _ _ _ h => h) (Or.inl ⟨by rfl, fun w' _ => by go_simp⟩) hS ?_
      simp only [Act.put, List.getElem_toArray, List.getElem_cons_succ, List.getElem_cons_zero, List.setIfInBounds_toArray, List.set_cons_zero, List.set_cons_succ]
      refine wpAnyH_take (i := 3) (v := .pointer (some ⟨g, 0, none⟩)) rfl (by kernel_rfl) (by kernel_rfl) (by kernel_rfl) (fun _ _ _ h => h) (Or.inl ⟨by rfl, fun w' _ => by go_simp⟩) hS ?_
      simp only [Act.put, List.getElem_toArray, List.getElem_cons_succ, List.getElem_cons_zero, List.setIfInBounds_toArray, List.set_cons_zero, List.set_cons_succ]
      refine wpAnyH_take (i := 4) (v := .pointer (some ⟨g, 0, none⟩)) rfl (by kernel_rfl) (by kernel_rfl) (by kernel_rfl) (fun _ _ _ h => h) (Or.inl ⟨by rfl, fun w' _ => by go_simp⟩) hS ?_
      simp only [Act.put, List.getElem_toArray, List.getElem_cons_succ, List.getElem_cons_zero, List.setIfInBounds_toArray, List.set_cons_zero, List.set_cons_succ]
      refine wpAnyH_take (i := 5) (v := .pointer (some ⟨g, 0, none⟩)) rfl (by kernel_rfl) (by kernel_rfl) (by kernel_rfl) (fun _ _ _ h => h) (Or.inl ⟨by rfl, fun w' _ => by go_simp⟩) hS ?_
      simp only [Act.put, List.getElem_toArray, List.getElem_cons_succ, List.getElem_cons_zero, List.setIfInBounds_toArray, List.set_cons_zero, List.set_cons_succ]
      refine wpAnyH_take (i := 6) (v := .pointer (some ⟨r, 0, none⟩)) rfl (by kernel_rfl) (by kernel_rfl) (by kernel_rfl) (fun _ _ _ h => h) (Or.inl ⟨by rfl, fun w' h => by have h2 := h.1; go_simp⟩) hS ?_
      simp only [Act.put, List.getElem_toArray, List.getElem_cons_succ, List.getElem_cons_zero, List.setIfInBounds_toArray, List.set_cons_zero, List.set_cons_succ]
      refine wpAnyH_take (i := 7) (v := .agg (rpc x).toArray) rfl (by kernel_rfl) (by kernel_rfl) (by kernel_rfl) (fun _ _ _ h => h) (yieldsIf_load_mid (by rfl) 63 (.tmp 11) rfl xb 0 rfl (rpc x) _ (fun w' h => h.2) Tryz.underlying63 rfl infoRep) hS ?_
      simp only [Act.put, List.getElem_toArray, List.getElem_cons_succ, List.getElem_cons_zero, List.setIfInBounds_toArray, List.set_cons_zero, List.set_cons_succ]
      have HT : Hid (Calls Tryz.prog 28 #[.pointer (some ⟨r, 0, none⟩), .agg (rpc x).toArray] W3 _) := Lib.hid (HY.out.Took_at hi hbz x (hx.out ▸ (hc.out hbz).2))
      refine wpAnyH_ready (rs := [8]) (by kernel_rfl) (by simp) ?_
      refine AllReadyH.cons rfl (fun K2 hK => ?_) AllReadyH.nil
      rw [if_pos (by rfl)]
      go_simp
      refine HT.out.mono ?_
      rintro e w4 ⟨rfl, h1⟩
      have p4 : w4.cell? ⟨g, 0, none⟩ = some (.pointer (some ⟨r, 0, none⟩)) := (h1.out.get HG.out).cell 0
      have r4 := blkA_range (h1.out.get HXB.out) 0 (rpc x) (by kernel_rfl)
      refine hK.out _ _ ⟨p4, r4⟩ (fun _ => ?_)
      replace hS := And.intro p4 r4
      clear hK K2 HT HY
      refine wpAnyH_take (i := 9) (v := .bool true) rfl (by kernel_rfl) (by kernel_rfl) (by kernel_rfl) (fun _ _ _ h => h) (Or.inl ⟨by rfl, fun w' _ => by go_simp⟩) hS ?_
      simp only [Act.put, List.getElem_toArray, List.getElem_cons_succ, List.getElem_cons_zero, List.setIfInBounds_toArray, List.set_cons_zero, List.set_cons_succ]
      refine wpAnyH_take (i := 10) (v := .bool true) rfl (by kernel_rfl) (by kernel_rfl) (by kernel_rfl) (fun _ _ _ h => h) (Or.inl ⟨by rfl, fun w' _ => by go_simp⟩) hS ?_
      simp only [Act.put, List.getElem_toArray, List.getElem_cons_succ, List.getElem_cons_zero, List.setIfInBounds_toArray, List.set_cons_zero, List.set_cons_succ]
      refine wpAnyH_take (i := 11) (v := .bool true) rfl (by kernel_rfl) (by kernel_rfl) (by kernel_rfl) (fun _ _ _ h => h) (Or.inl ⟨by rfl, fun w' _ => by go_simp⟩) hS ?_
      simp only [Act.put, List.getElem_toArray, List.getElem_cons_succ, List.getElem_cons_zero, List.setIfInBounds_toArray, List.set_cons_zero, List.set_cons_succ]
      refine wpAnyH_done (by kernel_rfl) ?_ _
      clear hS p4 r4
      go_wp2
      go_ret
      refine ⟨by rw [hbz]; rfl, bx1, O1, ?_, HW.out.whole HW1.out, HLF.out, HO.out⟩
      rw [if_pos hbz, if_pos hbz, hx.out]
      exact Lib.hid (h1.out.sub fun q v e => by
        rw [Bx.put_ne]
        · exact e
        · intro k
          rw [k, HXN.out] at e
          cases e)
    | false =>
      have HBZ := Lib.hid hbz
      clear hbz
      have hsl := p4
      obtain ⟨x1, x2, x3, x4, x5, HJ, HS, x8⟩ := HW.out
      rcases HJ with ⟨rfl, hj⟩ | ⟨jb, jj, rfl, hj, q1, q2, q3⟩
      · cases hin : y.2.inn with
        | true =>
          rw [hin] at p3
          have HIN := Lib.hid hin
          have HJN := Lib.hid hj
          clear hin hj x1 x2 x3 x4 x5 HS x8 hsl
          go_wp2_with fail
          have hov : wover y = false := by unfold wover; rw [HBZ.out, HJN.out, HIN.out]; rfl
          obtain ⟨n, hn, hnx, hok, hto⟩ := HOK.out.next hov
          have hgo : GoOk (y.1.at_ (cl 2)) (zw, false) := by
            unfold WNext at hnx
            rw [HJN.out] at hnx
            simp only [HIN.out, if_true] at hnx
            exact hnx
          have hwb : wbeg y = (y.1.begins (cl 2), { y.2 with inn := false }) := by
            unfold wbeg
            rw [HJN.out]
            simp only [HIN.out, if_true]
          rw [hwb] at hok hto
          have hset := BlkW.set (HY.out.get HW1.out) 3 (.bool false)
          have HY2 := Lib.hid (HY.out.off HW1.out HW.out.1 ((Off.refl (fun j => j = g) wr).set (.inl rfl) 3 (.bool false)) (cs' := (wkc r (.slice (some ⟨ob, 0, none⟩) y.2.ops.length oc) (.pointer none) false sv).toArray) hset (by decide))
          have HB := Lib.hid (HY2.out.Begin_at hi HBZ.out (cl 2) (cl_fine 2 (.inr rfl)) hgo)
          have HWK := Lib.hid (HW.out.put (r := r) HW1.out false)
          have HLF2 := Lib.hid (left_put HLF.out HO.out HW.out.2.1 103 (wkc r (.slice (some ⟨ob, 0, none⟩) y.2.ops.length oc) (.pointer none) false sv).toArray)
          have HN := Lib.hid hn
          have HK2 := Lib.hid hok
          have HT2 := Lib.hid (hto.symm.trans HTO.out)
          clear hov hn hnx hok hto hgo hwb hset
          generalize wr.setCell ⟨g, 3, none⟩ (.bool false) = W1 at HB ⊢
          refine HB.out.mono ?_
          rintro e w5 ⟨rfl, h3⟩
          have hk11 : k + 1 ≤ 199 := by have := HN.out; omega
          have zk : wrap64 ((k : Int) + 1) = ((k + 1 : Nat) : Int) := by rw [IntWalk.wrap64_in _ ⟨by omega, by omega⟩]; rfl
          have HF : Hid (LpW w E B p bs bb t rs i bx O g r ob oc R (199 - (k + 1)) w5) := by
            rw [show 199 - (k + 1) = n by have := HN.out; omega]
            exact Lib.hid ⟨_, _, O1, h3.out, HWK.out, HK2.out, HT2.out, HLF2.out, HO.out⟩
          clear HY HY2 HB HWK HLF2 HN HK2 HT2 h3 HOK HTO HLF HO HW HW1 HBZ HIN HJN p0 p1 p2 p3 p4 fz hzg
          go_wp2
          go_roundw
          case rel => exact ⟨k + 1, hk11, by go_num, HF.out⟩
          case measure => simp [intOf]; omega
        | false =>
          rw [hin] at p3
          have HIN := Lib.hid hin
          have HJN := Lib.hid hj
          obtain ⟨sa, sc, rfl⟩ := HS.slice
          clear hin hj x1 x2 x3 x4 x5 HS x8 hsl
          go_upto_region 9 with fail
          have y1 : ∀ d os, (grow (redrawn wr d) os).cell? ⟨g, 1, none⟩ = some _ := cell_regrown p1
          have y4 : ∀ d os, (grow (redrawn wr d) os).cell? ⟨g, 4, none⟩ = some _ := cell_regrown p4
          obtain ⟨no, hno⟩ : ∃ no, no = y.2.ops.length := ⟨_, rfl⟩
          obtain ⟨ns, hns⟩ : ∃ ns, ns = y.2.said.length := ⟨_, rfl⟩
          rw [← hno] at p1 y1
          rw [← hns] at p4 y4
          have HNO := Lib.hid hno
          have HNS := Lib.hid hns
          clear hno hns
          refine wp_region_quiet_below (by kernel_rfl) (by kernel_rfl) ?_
          repeat (go_big_quiet_step (fail))
          refine wpQuiet_nil ?_
          intro _ hw'
          obtain ⟨⟨dq, osq⟩, hw''⟩ := hw'
          subst hw''
          have HB3 := Lib.hid (below_regrown wr dq osq)
          generalize grow (redrawn wr dq) osq = W3 at HB3 ⊢
          have HY3 := Lib.hid (HY.out.below HB3.out)
          by_cases hle : no ≤ ns
          · have hov : wover y = true := by unfold wover; rw [HBZ.out, HJN.out, HIN.out, ← HNO.out, ← HNS.out]; simpa using hle
            have ea : y = R := (wto_over hov).symm.trans HTO.out
            clear hov HOK HTO y1 y4 p1 p2 p3 p4 fz
            subst ea
            go_wp2
            go_ret
            refine ⟨by rw [HBZ.out]; rfl, _, O1, ?_, HW.out.whole HW1.out, HLF.out, HO.out⟩
            rw [HBZ.out, if_neg Bool.false_ne_true, if_neg Bool.false_ne_true]
            exact HY3
          · have hov : wover y = false := by unfold wover; rw [HBZ.out, HJN.out, HIN.out, ← HNO.out, ← HNS.out]; simpa using hle
            obtain ⟨n, hn, hnx, hok, hto⟩ := HOK.out.next hov
            have hlt : y.2.said.length < y.2.ops.length := by have := HNO.out; have := HNS.out; omega
            have hget : y.2.ops[y.2.said.length]? = some y.2.ops[y.2.said.length] := List.getElem?_eq_getElem hlt
            have hnn : y.2.ops[y.2.said.length].can ∧ GoOk (y.1.at_ (cl 1)) (zw, false) := by
              unfold WNext at hnx
              rw [HJN.out] at hnx
              simp only [HIN.out, Bool.false_eq_true, if_false] at hnx
              rw [hget] at hnx
              exact hnx
            have hwb : wbeg y = (y.1.begins (cl 1), { y.2 with j := some (Jb.new y.2.ops[y.2.said.length]), inn := true }) := by
              unfold wbeg
              rw [HJN.out]
              simp only [HIN.out, Bool.false_eq_true, if_false]
              rw [hget]
            rw [hwb] at hok hto
            obtain ⟨T, cs, ho1, ho2⟩ := HW.out.2.2.2.2.1
            have hrg := blkA_range (HY3.out.get ho1) (y.2.said.length * 4) (opc y.2.ops[y.2.said.length]) (ho2 _ hlt)
            obtain ⟨o, ho⟩ : ∃ o, o = y.2.ops[y.2.said.length] := ⟨_, rfl⟩
            rw [← ho] at hnn hok hto hrg hwb
            rw [← HNS.out] at hrg
            clear ho
            have HRG := Lib.hid hrg
            have HN := Lib.hid hn
            have HK2 := Lib.hid hok
            have HT2 := Lib.hid (hto.symm.trans HTO.out)
            have HNN := Lib.hid hnn
            have j4 := keep_cell HB3.out p4
            have j1 := keep_cell HB3.out p1
            have j0 := keep_cell HB3.out p0
            have hzg3 := Nat.lt_of_lt_of_le hzg HB3.out.size
            have hlt2 : ns < no := by omega
            clear hov hn hnx hok hto hget hlt hnn hwb ho1 ho2 hrg p0 p1 p2 p3 p4 y1 y4 fz HOK hle
            go_wp2_with fail
            have hob : ob < W3.heap.size := by
              obtain ⟨T, cs, ho1, _⟩ := HW.out.2.2.2.2.1
              exact (HY3.out.get ho1).lt
            have o0 : W3.cell? ⟨ob, ns * 4, none⟩ = some (.int .i64 o.kind) := HRG.out 0 _ rfl
            have o1 : W3.cell? ⟨ob, ns * 4 + 1, none⟩ = some (.int .i64 o.key) := HRG.out 1 _ rfl
            have o2 : W3.cell? ⟨ob, ns * 4 + 2, none⟩ = some (.int .i64 o.val) := HRG.out 2 _ rfl
            have o3 : W3.cell? ⟨ob, ns * 4 + 3, none⟩ = some (.int .i64 o.tall) := HRG.out 3 _ rfl
            have HST := Lib.hid (Start_is o HNN.out.1)
            unfold opv at HST
            have HDR := Lib.hid ((Below.refl W3.heap.size W3).drew)
            go_region_held3 (fun w' => w'.cell? ⟨g, 1, none⟩ = some (.slice (some ⟨ob, 0, none⟩) no oc) ∧ w'.cell? ⟨g, 4, none⟩ = some (.slice sa ns sc) ∧ w'.cell? ⟨ob, ns * 4, none⟩ = some (.int .i64 o.kind) ∧ w'.cell? ⟨ob, ns * 4 + 1, none⟩ = some (.int .i64 o.key) ∧ w'.cell? ⟨ob, ns * 4 + 2, none⟩ = some (.int .i64 o.val) ∧ w'.cell? ⟨ob, ns * 4 + 3, none⟩ = some (.int .i64 o.tall))
              (first | go_keep | exact ⟨keep_cell h2.out (keep_cell HDR.out j1), keep_cell h2.out (keep_cell HDR.out j4), keep_cell h2.out (keep_cell HDR.out o0), keep_cell h2.out (keep_cell HDR.out o1), keep_cell h2.out (keep_cell HDR.out o2), keep_cell h2.out (keep_cell HDR.out o3)⟩)
              (first
              | (go_at_call 73; refine (HST.out _).mono ?_; rintro e w4 ⟨b, rfl, hbz, h1, h2⟩))
            have hb4 := h2.out
            have HY4 := Lib.hid (HY3.out.drew.box h2.out h1.out hbz (by decide) (by decide) (by decide))
            have hbn : bx1 b = none := by
              cases hq : bx1 b with
              | none => rfl
              | some x => exact absurd (HY3.out.get (T := x.1) (cs := x.2) hq).lt (by have : W3.heap.size ≤ b := hbz; omega)
            have hBb : B ≤ b := Nat.le_trans HY3.out.of.2 hbz
            have hbg : b ≠ g := fun e => by rw [e, HW1.out] at hbn; cases hbn
            have HW4 : Hid ((bx1.put b 176 (jc (Jb.new o)).toArray) g = some (103, (wkc r (.slice (some ⟨ob, 0, none⟩) y.2.ops.length oc) (.pointer none) y.2.inn (.slice sa y.2.said.length sc)).toArray)) := Lib.hid (by rw [Bx.put_ne _ _ _ (fun e => hbg e.symm)]; exact HW1.out)
            have hm4 := HY4.out.get HW4.out
            have p0 : w4.cell? ⟨g, 0, none⟩ = some (.pointer (some ⟨r, 0, none⟩)) := hm4.cell 0
            have p2 : w4.cell? ⟨g, 2, none⟩ = some (.pointer none) := hm4.cell 2
            have p3 : w4.cell? ⟨g, 3, none⟩ = some (.bool y.2.inn) := hm4.cell 3
            have fz4 : ∀ q, w4.frozen? ⟨g, q, none⟩ = false := hm4.frozen
            have hzg4 := hm4.lt
            have HBN := Lib.hid hbn
            have HBB := Lib.hid hBb
            clear hm4 hbn hBb hbg h1 h2 hb4 hbz j0 j1 j4 o0 o1 o2 o3 HRG HST HDR hob hzg hzg3 HY3 HB3 HY
            go_wp2_with fail
            have hset := BlkW.set (BlkW.set (HY4.out.get HW4.out) 2 (.pointer (some ⟨b, 0, none⟩))) 3 (.bool true)
            have HY5 := Lib.hid (HY4.out.off HW4.out HW.out.1 (((Off.refl (fun j => j = g) w4).set (.inl rfl) 2 (.pointer (some ⟨b, 0, none⟩))).set (.inl rfl) 3 (.bool true)) (cs' := (wkc r (.slice (some ⟨ob, 0, none⟩) y.2.ops.length oc) (.pointer (some ⟨b, 0, none⟩)) true (.slice sa y.2.said.length sc)).toArray) hset (by decide))
            have HB := Lib.hid (HY5.out.Begin_at hi HBZ.out (cl 1) (cl_fine 1 (.inl rfl)) HNN.out.2)
            have HWK := Lib.hid (HW.out.begun (r := r) HW1.out HBN.out HBB.out (Jb.new o))
            have HLF2 := Lib.hid (left_put (left_new HLF.out HBN.out 176 (jc (Jb.new o)).toArray) (own_new HLF.out HO.out HBN.out) (.inl HW.out.2.1) 103 (wkc r (.slice (some ⟨ob, 0, none⟩) y.2.ops.length oc) (.pointer (some ⟨b, 0, none⟩)) true (.slice sa y.2.said.length sc)).toArray)
            have HO2 := Lib.hid (own_new HLF.out HO.out HBN.out)
            clear hset
            generalize (w4.setCell ⟨g, 2, none⟩ (.pointer (some ⟨b, 0, none⟩))).setCell ⟨g, 3, none⟩ (.bool true) = W5 at HB ⊢
            refine HB.out.mono ?_
            rintro e w5 ⟨rfl, h3⟩
            have hk11 : k + 1 ≤ 199 := by have := HN.out; omega
            have zk : wrap64 ((k : Int) + 1) = ((k + 1 : Nat) : Int) := by rw [IntWalk.wrap64_in _ ⟨by omega, by omega⟩]; rfl
            have HF : Hid (LpW w E B p bs bb t rs i bx O g r ob oc R (199 - (k + 1)) w5) := by
              rw [show 199 - (k + 1) = n by have := HN.out; omega]
              exact Lib.hid ⟨_, _, _, h3.out, HWK.out, HK2.out, HT2.out, HLF2.out, HO2.out⟩
            clear HY4 HY5 HB HWK HLF2 HN HK2 HT2 h3 HTO HLF HO HO2 HW HW1 HW4 HBZ HIN HJN p0 p2 p3 fz4 hzg4 HBN HBB HNN HNO HNS
            go_wp2
            go_roundw
            case rel => exact ⟨k + 1, hk11, by go_num, HF.out⟩
            case measure => simp [intOf]; omega
      · obtain ⟨sa, sc, rfl⟩ := HS.slice
        have HJJ := Lib.hid hj
        have HQ := Lib.hid (show B ≤ jb ∧ O1 jb ∧ bx1 jb = some (176, (jc jj).toArray) from ⟨q1, q2, q3⟩)
        have HSD := Lib.hid HS
        clear hj q1 q2 q3 x1 x2 x3 x4 x5 HS x8 hsl
        go_upto_region 18 with fail
        have hov : wover y = false := by unfold wover; rw [HBZ.out, HJJ.out]; rfl
        obtain ⟨n, hn, hnx, hok, hto⟩ := HOK.out.next hov
        have hjo : y.2.said.length ≤ 1000 ∧ JOk jj ∧ ((jj.go y.1.st.last).call.kind ≠ 12 → (jj.go y.1.st.last).code = 0 ∧ (jj.go y.1.st.last).aval = 0 ∧ (jj.go y.1.st.last).call.fine ∧ GoOk (y.1.at_ (jj.go y.1.st.last).call) (zw, false)) := by
          unfold WNext at hnx
          rw [HJJ.out] at hnx
          exact hnx
        have HJO := Lib.hid hjo
        have HN := Lib.hid hn
        have HK2 := Lib.hid hok
        have HT2 := Lib.hid (hto.symm.trans HTO.out)
        have hjg : g ≠ jb := fun e => by have h := HW1.out; rw [e, HQ.out.2.2] at h; injection h with h; injection h with h; exact absurd h (by decide)
        have HGF : Hid (∀ q, bx1 q = none → ∀ cs', ((bx1.put jb 176 (jc (jj.go y.1.st.last)).toArray).put q 51 cs') g = some (103, (wkc r (.slice (some ⟨ob, 0, none⟩) y.2.ops.length oc) (.pointer (some ⟨jb, 0, none⟩)) y.2.inn (.slice sa y.2.said.length sc)).toArray)) := Lib.hid fun q hq cs' => by
          rw [Bx.put_ne _ _ _ (fun e => by rw [← e, HW1.out] at hq; cases hq), Bx.put_ne _ _ _ hjg]
          exact HW1.out
        have HGE : Hid ((bx1.put jb 176 (jc (jj.go y.1.st.last)).toArray) g = some (103, (wkc r (.slice (some ⟨ob, 0, none⟩) y.2.ops.length oc) (.pointer (some ⟨jb, 0, none⟩)) y.2.inn (.slice sa y.2.said.length sc)).toArray)) := Lib.hid ((Bx.put_ne _ _ _ hjg).trans HW1.out)
        clear hov hn hnx hok hto hjo
        go_cut [8] from 13 to 136 (fun v wx => ∃ q, v = .pointer (some ⟨q, 0, none⟩) ∧ bx1 q = none ∧ B ≤ q ∧ Cw wx w E B p bs bb t (rs.set i (r, y.1)) ((bx1.put jb 176 (jc (jj.go y.1.st.last)).toArray).put q 51 (cac (jj.go y.1.st.last).call (jj.go y.1.st.last).code (jj.go y.1.st.last).aval).toArray))
        case first =>
          refine wp_region_held (S := fun w' => w'.cell? ⟨g, 0, none⟩ = some (.pointer (some ⟨r, 0, none⟩)) ∧ w'.cell? ⟨g, 2, none⟩ = some (.pointer (some ⟨jb, 0, none⟩))) (by kernel_rfl) ?_
          show wpAnyH _ _ _ _ _ 12 #[false, false, false, false, false, false, false, false, false, false, false, false] _ wr.drew
          have HY0 := Lib.hid HY.out.drew
          generalize wr.drew = W0 at HY0 ⊢
          have hS : W0.cell? ⟨g, 0, none⟩ = some (.pointer (some ⟨r, 0, none⟩)) ∧ W0.cell? ⟨g, 2, none⟩ = some (.pointer (some ⟨jb, 0, none⟩)) := ⟨(HY0.out.get HW1.out).cell 0, (HY0.out.get HW1.out).cell 2⟩
          clear HY p0 p1 p2 p3 p4 fz hzg
          refine wpAnyH_take (i := 0) (v := .pointer (some ⟨g, 0, none⟩)) rfl (by kernel_rfl) (by kernel_rfl) (by kernel_rfl) (fun _ _ _ h => h) (Or.inl ⟨by rfl, fun w' _ => by go_simp⟩) hS ?_
          simp only [Act.put, List.getElem_toArray, List.getElem_cons_succ, List.getElem_cons_zero, List.setIfInBounds_toArray, List.set_cons_zero, List.set_cons_succ]
          refine wpAnyH_take (i := 1) (v := .pointer (some ⟨g, 0, none⟩)) rfl (by kernel_rfl) (by kernel_rfl) (by kernel_rfl) (fun _ _ _ h => h) (Or.inl ⟨by rfl, fun w' _ => by go_simp⟩) hS ?_
          simp only [Act.put, List.getElem_toArray, List.getElem_cons_succ, List.getElem_cons_zero, List.setIfInBounds_toArray, List.set_cons_zero, List.set_cons_succ]
          refine wpAnyH_take (i := 2) (v := .pointer (some ⟨g, 2, none⟩)) rfl (by kernel_rfl) (by kernel_rfl) (by kernel_rfl) (fun _ _ _ h => h) (Or.inl ⟨by rfl, fun w' _ => by go_simp⟩) hS ?_
          simp only [Act.put, List.getElem_toArray, List.getElem_cons_succ, List.getElem_cons_zero, List.setIfInBounds_toArray, List.set_cons_zero, List.set_cons_succ]
          refine wpAnyH_take (i := 3) (v := .pointer (some ⟨jb, 0, none⟩)) rfl (by kernel_rfl) (by kernel_rfl) (by kernel_rfl) (fun _ _ _ h => h) (Or.inl ⟨by rfl, fun w' h => by have h2 := h.2; go_simp⟩) hS ?_
          simp only [Act.put, List.getElem_toArray, List.getElem_cons_succ, List.getElem_cons_zero, List.setIfInBounds_toArray, List.set_cons_zero, List.set_cons_succ]
          refine wpAnyH_take (i := 4) (v := .pointer (some ⟨g, 0, none⟩)) rfl (by kernel_rfl) (by kernel_rfl) (by kernel_rfl) (fun _ _ _ h => h) (Or.inl ⟨by rfl, fun w' _ => by go_simp⟩) hS ?_
          simp only [Act.put, List.getElem_toArray, List.getElem_cons_succ, List.getElem_cons_zero, List.setIfInBounds_toArray, List.set_cons_zero, List.set_cons_succ]
          refine wpAnyH_take (i := 5) (v := .pointer (some ⟨g, 0, none⟩)) rfl (by kernel_rfl) (by kernel_rfl) (by kernel_rfl) (fun _ _ _ h => h) (Or.inl ⟨by rfl, fun w' _ => by go_simp⟩) hS ?_
          simp only [Act.put, List.getElem_toArray, List.getElem_cons_succ, List.getElem_cons_zero, List.setIfInBounds_toArray, List.set_cons_zero, List.set_cons_succ]
          refine wpAnyH_take (i := 6) (v := .pointer (some ⟨g, 0, none⟩)) rfl (by kernel_rfl) (by kernel_rfl) (by kernel_rfl) (fun _ _ _ h => h) (Or.inl ⟨by rfl, fun w' _ => by go_simp⟩) hS ?_
          simp only [Act.put, List.getElem_toArray, List.getElem_cons_succ, List.getElem_cons_zero, List.setIfInBounds_toArray, List.set_cons_zero, List.set_cons_succ]
          refine wpAnyH_take (i := 7) (v := .pointer (some ⟨r, 0, none⟩)) rfl (by kernel_rfl) (by kernel_rfl) (by kernel_rfl) (fun _ _ _ h => h) (Or.inl ⟨by rfl, fun w' h => by have h2 := h.1; go_simp⟩) hS ?_
          simp only [Act.put, List.getElem_toArray, List.getElem_cons_succ, List.getElem_cons_zero, List.setIfInBounds_toArray, List.set_cons_zero, List.set_cons_succ]
          have HRP := Lib.hid (HY0.out.Reply_at hi)
          refine wpAnyH_ready (rs := [8, 10]) (by kernel_rfl) (by simp) ?_
          refine AllReadyH.cons rfl (fun K2 hK => ?_) (AllReadyH.cons rfl (fun K2 hK => ?_) AllReadyH.nil)
          · rw [if_pos (by rfl)]
            go_simp
            refine HRP.out.mono ?_
            rintro e w4 ⟨rfl, h1⟩
            refine hK.out _ _ ⟨(h1.out.get HW1.out).cell 0, (h1.out.get HW1.out).cell 2⟩ (fun _ => ?_)
            have HNX := Lib.hid (h1.out.jNextC HQ.out.2.2 HQ.out.1 y.1.st.last HJO.out.2.1)
            clear hK
            refine wpAnyH_ready (rs := [9, 10]) (by kernel_rfl) (by simp) ?_
            refine AllReadyH.cons rfl (fun K3 hK => ?_) (AllReadyH.cons rfl (fun K3 hK => ?_) AllReadyH.nil)
            · rw [if_pos (by rfl)]
              go_simp
              refine HNX.out.mono ?_
              rintro e w5 ⟨rfl, h2⟩
              refine hK.out _ _ ⟨(h2.out.get HGE.out).cell 0, (h2.out.get HGE.out).cell 2⟩ (fun _ => ?_)
              clear hK
              refine wpAnyH_ready (rs := [10]) (by kernel_rfl) (by simp) ?_
              refine AllReadyH.cons rfl (fun K4 hK => ?_) AllReadyH.nil
              rw [if_pos (by rfl)]
              go_simp
              have H3 := Lib.hid (h2.out.new 51 (clc zc).toArray (by decide) (by decide) (by decide))
              have HQN := Lib.hid (Bx.none_of_put h2.out.fresh_none).1
              have HQB := Lib.hid h2.out.of.2
              show K4 _ (w5.alloc (.cells (clc zc).toArray 51))
              clear h1 h2 HNX HRP HY0
              generalize w5.alloc (.cells (clc zc).toArray 51) = W6 at H3 ⊢
              generalize w5.heap.size = q at H3 HQN HQB ⊢
              refine hK.out _ _ ⟨(H3.out.get (HGF.out q HQN.out _)).cell 0, (H3.out.get (HGF.out q HQN.out _)).cell 2⟩ (fun _ => ?_)
              clear hK
              refine wpAnyH_ready (rs := [11]) (by kernel_rfl) (by simp) ?_
              refine AllReadyH.cons rfl (fun K5 hK => ?_) AllReadyH.nil
              refine step_store_ans H3.out (Bx.put_self ..) HQB.out rfl (.tmp 8) (.tmp 112) rfl (by rfl) (jj.go y.1.st.last).call (jj.go y.1.st.last).code (jj.go y.1.st.last).aval (by rfl) ?_
              intro w7 h7
              rw [Bx.put_put] at h7
              have H7 := Lib.hid h7
              refine hK.out _ _ ⟨(h7.get (HGF.out q HQN.out _)).cell 0, (h7.get (HGF.out q HQN.out _)).cell 2⟩ (fun _ => ?_)
              refine wpAnyH_done (by kernel_rfl) ?_ _
              clear hK h7 H3 hS hjg
              go_wp2_with fail
              go_meet
              exact ⟨q, rfl, HQN.out, HQB.out, H7.out⟩
            · rw [if_pos (by rfl)]
              go_simp
              have H3 := Lib.hid (h1.out.new 51 (clc zc).toArray (by decide) (by decide) (by decide))
              have hqn := h1.out.fresh_none
              have HQN := Lib.hid hqn
              have HQB := Lib.hid h1.out.of.2
              show K3 _ (w4.alloc (.cells (clc zc).toArray 51))
              clear hqn
              generalize w4.alloc (.cells (clc zc).toArray 51) = W6 at H3 ⊢
              generalize w4.heap.size = q at H3 HQN HQB ⊢
              have hqj : q ≠ jb := fun e => by have h := HQN.out; rw [e, HQ.out.2.2] at h; cases h
              have HG6 : Hid ((bx1.put q 51 (clc zc).toArray) g = _) := Lib.hid ((Bx.put_ne _ _ _ (fun e => by have h := HQN.out; rw [← e, HW1.out] at h; cases h)).trans HW1.out)
              have HJ6 : Hid ((bx1.put q 51 (clc zc).toArray) jb = _) := Lib.hid ((Bx.put_ne _ _ _ (fun e => hqj e.symm)).trans HQ.out.2.2)
              refine hK.out _ _ ⟨(H3.out.get HG6.out).cell 0, (H3.out.get HG6.out).cell 2⟩ (fun _ => ?_)
              clear hK
              have HNX2 := Lib.hid (H3.out.jNextC HJ6.out HQ.out.1 y.1.st.last HJO.out.2.1)
              rw [Bx.put_comm _ hqj] at HNX2
              refine wpAnyH_ready (rs := [9]) (by kernel_rfl) (by simp) ?_
              refine AllReadyH.cons rfl (fun K5 hK => ?_) AllReadyH.nil
              rw [if_pos (by rfl)]
              go_simp
              refine HNX2.out.mono ?_
              rintro e w6 ⟨rfl, h2⟩
              refine hK.out _ _ ⟨(h2.out.get (HGF.out q HQN.out _)).cell 0, (h2.out.get (HGF.out q HQN.out _)).cell 2⟩ (fun _ => ?_)
              clear hK
              refine wpAnyH_ready (rs := [11]) (by kernel_rfl) (by simp) ?_
              refine AllReadyH.cons rfl (fun K6 hK => ?_) AllReadyH.nil
              refine step_store_ans h2.out (Bx.put_self ..) HQB.out rfl (.tmp 8) (.tmp 112) rfl (by rfl) (jj.go y.1.st.last).call (jj.go y.1.st.last).code (jj.go y.1.st.last).aval (by rfl) ?_
              intro w7 h7
              rw [Bx.put_put] at h7
              have H7 := Lib.hid h7
              refine hK.out _ _ ⟨(h7.get (HGF.out q HQN.out _)).cell 0, (h7.get (HGF.out q HQN.out _)).cell 2⟩ (fun _ => ?_)
              refine wpAnyH_done (by kernel_rfl) ?_ _
              clear hK h7 H3 hS h2 HNX2 HNX h1 HRP HY0 HG6 HJ6 hqj
              go_wp2_with fail
              go_meet
              exact ⟨q, rfl, HQN.out, HQB.out, H7.out⟩
          · rw [if_pos (by rfl)]
            go_simp
            have H3 := Lib.hid (HY0.out.new 51 (clc zc).toArray (by decide) (by decide) (by decide))
            have hqn := HY0.out.fresh_none
            have HQN := Lib.hid hqn
            have HQB := Lib.hid HY0.out.of.2
            show K2 _ (W0.alloc (.cells (clc zc).toArray 51))
            clear hqn
            generalize W0.alloc (.cells (clc zc).toArray 51) = W6 at H3 ⊢
            generalize W0.heap.size = q at H3 HQN HQB ⊢
            have hqj : q ≠ jb := fun e => by have h := HQN.out; rw [e, HQ.out.2.2] at h; cases h
            have HG6 : Hid ((bx1.put q 51 (clc zc).toArray) g = _) := Lib.hid ((Bx.put_ne _ _ _ (fun e => by have h := HQN.out; rw [← e, HW1.out] at h; cases h)).trans HW1.out)
            have HJ6 : Hid ((bx1.put q 51 (clc zc).toArray) jb = _) := Lib.hid ((Bx.put_ne _ _ _ (fun e => hqj e.symm)).trans HQ.out.2.2)
            refine hK.out _ _ ⟨(H3.out.get HG6.out).cell 0, (H3.out.get HG6.out).cell 2⟩ (fun _ => ?_)
            clear hK
            have HRP2 := Lib.hid (H3.out.Reply_at hi)
            refine wpAnyH_ready (rs := [8]) (by kernel_rfl) (by simp) ?_
            refine AllReadyH.cons rfl (fun K3 hK => ?_) AllReadyH.nil
            rw [if_pos (by rfl)]
            go_simp
            refine HRP2.out.mono ?_
            rintro e w5 ⟨rfl, h1⟩
            refine hK.out _ _ ⟨(h1.out.get HG6.out).cell 0, (h1.out.get HG6.out).cell 2⟩ (fun _ => ?_)
            clear hK
            have HNX2 := Lib.hid (h1.out.jNextC HJ6.out HQ.out.1 y.1.st.last HJO.out.2.1)
            rw [Bx.put_comm _ hqj] at HNX2
            refine wpAnyH_ready (rs := [9]) (by kernel_rfl) (by simp) ?_
            refine AllReadyH.cons rfl (fun K5 hK => ?_) AllReadyH.nil
            rw [if_pos (by rfl)]
            go_simp
            refine HNX2.out.mono ?_
            rintro e w6 ⟨rfl, h2⟩
            refine hK.out _ _ ⟨(h2.out.get (HGF.out q HQN.out _)).cell 0, (h2.out.get (HGF.out q HQN.out _)).cell 2⟩ (fun _ => ?_)
            clear hK
            refine wpAnyH_ready (rs := [11]) (by kernel_rfl) (by simp) ?_
            refine AllReadyH.cons rfl (fun K6 hK => ?_) AllReadyH.nil
            refine step_store_ans h2.out (Bx.put_self ..) HQB.out rfl (.tmp 8) (.tmp 112) rfl (by rfl) (jj.go y.1.st.last).call (jj.go y.1.st.last).code (jj.go y.1.st.last).aval (by rfl) ?_
            intro w7 h7
            rw [Bx.put_put] at h7
            have H7 := Lib.hid h7
            refine hK.out _ _ ⟨(h7.get (HGF.out q HQN.out _)).cell 0, (h7.get (HGF.out q HQN.out _)).cell 2⟩ (fun _ => ?_)
            refine wpAnyH_done (by kernel_rfl) ?_ _
            clear hK h7 H3 hS h2 HNX2 h1 HRP HRP2 HY0 HG6 HJ6 hqj
            go_wp2_with fail
            go_meet
            exact ⟨q, rfl, HQN.out, HQB.out, H7.out⟩
        case rest =>
          obtain ⟨q, rfl, hqn, hqb, h7⟩ := hcut
          have HQN := Lib.hid hqn
          have HQB := Lib.hid hqb
          have H7 := Lib.hid h7
          clear hqn hqb h7 HY p0 p1 p2 p3 p4 fz hzg hjg
          generalize wc = w7 at H7 ⊢
          have hq7 := H7.out.get (Bx.put_self ..)
          have hg7 := H7.out.get (HGF.out q HQN.out _)
          have k0 : w7.cell? ⟨q, 0, none⟩ = some (.int .i64 (jj.go y.1.st.last).call.kind) := hq7.cell 0
          have g0 : w7.cell? ⟨g, 0, none⟩ = some (.pointer (some ⟨r, 0, none⟩)) := hg7.cell 0
          have hzq := hq7.lt
          have hzg7 := hg7.lt
          clear hq7 hg7
          by_cases hk12' : (jj.go y.1.st.last).call.kind = 12
          · have hsd : y.2.said.length ≤ 1000 := HJO.out.1
            have hwb : wbeg y = (y.1, { y.2 with said := y.2.said ++ [((jj.go y.1.st.last).code, (jj.go y.1.st.last).aval)], j := none }) := by
              unfold wbeg
              rw [HJJ.out]
              simp only [hk12', if_true]
            have HWB := Lib.hid hwb
            have HSD1 := Lib.hid hsd
            have hkb : ((jj.go y.1.st.last).call.kind == 12) = true := by simpa using hk12'
            obtain ⟨kk, hkk⟩ : ∃ kk, kk = (jj.go y.1.st.last).call.kind := ⟨_, rfl⟩
            rw [← hkk] at k0 hkb
            have HS7 : Hid (SaidAt ((bx1.put jb 176 (jc (jj.go y.1.st.last)).toArray).put q 51 (cac (jj.go y.1.st.last).call (jj.go y.1.st.last).code (jj.go y.1.st.last).aval).toArray) B (.slice sa y.2.said.length sc) y.2.said) := Lib.hid ((HSD.out.putsC (.inr ⟨_, HQ.out.2.2⟩)).putsC (.inl ((Bx.put_ne _ _ _ (fun e => by have h := HQN.out; rw [e, HQ.out.2.2] at h; cases h)).trans HQN.out)))
            have HG7 := Lib.hid (HGF.out q HQN.out (cac (jj.go y.1.st.last).call (jj.go y.1.st.last).code (jj.go y.1.st.last).aval).toArray)
            clear hk12' hkk hsd hwb
            go_wp2_with fail
            clear k0 g0 hzq hzg7 hkb
            generalize hj9 : jj.go y.1.st.last = jn at H7 HWB HS7 HG7 HGF HGE HJO
            clear hj9
            obtain ⟨i5, hi5, hz5, hs5, hy5⟩ := info_parts infoAns3
            refine wp_region_held (S := fun w' => w'.rangeAt q 16 (anc (jn.code, jn.aval))) (by kernel_rfl) ?_
            show wpAnyH _ _ _ _ _ 12 #[false, false, false, false, false, false, false, false, false, false, false, false] _ w7.drew
            replace H7 := Lib.hid H7.out.drew
            generalize w7.drew = W8 at H7 ⊢
            have hS : W8.rangeAt q 16 (anc (jn.code, jn.aval)) := blkA_range (H7.out.get (Bx.put_self ..)) 16 _ (by kernel_rfl)
            refine wpAnyH_take (i := 0) (v := .pointer (some ⟨g, 0, none⟩)) rfl (by kernel_rfl) (by kernel_rfl) (by kernel_rfl) (fun _ _ _ h => h) (Or.inl ⟨by rfl, fun w' _ => by go_simp⟩) hS ?_
            simp only [Act.put, List.getElem_toArray, List.getElem_cons_succ, List.getElem_cons_zero, List.setIfInBounds_toArray, List.set_cons_zero, List.set_cons_succ]
            refine wpAnyH_take (i := 1) (v := .pointer (some ⟨g, 0, none⟩)) rfl (by kernel_rfl) (by kernel_rfl) (by kernel_rfl) (fun _ _ _ h => h) (Or.inl ⟨by rfl, fun w' _ => by go_simp⟩) hS ?_
            simp only [Act.put, List.getElem_toArray, List.getElem_cons_succ, List.getElem_cons_zero, List.setIfInBounds_toArray, List.set_cons_zero, List.set_cons_succ]
            refine wpAnyH_take (i := 2) (v := .pointer (some ⟨g, 0, none⟩)) rfl (by kernel_rfl) (by kernel_rfl) (by kernel_rfl) (fun _ _ _ h => h) (Or.inl ⟨by rfl, fun w' _ => by go_simp⟩) hS ?_
            simp only [Act.put, List.getElem_toArray, List.getElem_cons_succ, List.getElem_cons_zero, List.setIfInBounds_toArray, List.set_cons_zero, List.set_cons_succ]
            refine wpAnyH_take (i := 3) (v := .pointer (some ⟨g, 4, none⟩)) rfl (by kernel_rfl) (by kernel_rfl) (by kernel_rfl) (fun _ _ _ h => h) (Or.inl ⟨by rfl, fun w' _ => by go_simp⟩) hS ?_
            simp only [Act.put, List.getElem_toArray, List.getElem_cons_succ, List.getElem_cons_zero, List.setIfInBounds_toArray, List.set_cons_zero, List.set_cons_succ]
            refine wpAnyH_take (i := 5) (v := .pointer (some ⟨q, 16, none⟩)) rfl (by kernel_rfl) (by kernel_rfl) (by kernel_rfl) (fun _ _ _ h => h) (Or.inl ⟨by rfl, fun w' _ => by go_simp⟩) hS ?_
            simp only [Act.put, List.getElem_toArray, List.getElem_cons_succ, List.getElem_cons_zero, List.setIfInBounds_toArray, List.set_cons_zero, List.set_cons_succ]
            refine wpAnyH_take (i := 6) (v := .agg (anc (jn.code, jn.aval)).toArray) rfl (by kernel_rfl) (by kernel_rfl) (by kernel_rfl) (fun _ _ _ h => h) (yieldsIf_load_mid (by rfl) 49 (.tmp 121) rfl q 16 rfl (anc (jn.code, jn.aval)) _ (fun w' h => h) Tryz.underlying49 rfl infoAnsS) hS ?_
            simp only [Act.put, List.getElem_toArray, List.getElem_cons_succ, List.getElem_cons_zero, List.setIfInBounds_toArray, List.set_cons_zero, List.set_cons_succ]
            have HQS := Lib.hid (HS7.out.own_ne (Bx.put_self ..) (by decide))
            have HGS := Lib.hid (HS7.out.own_ne HG7.out (by decide))
            have hqg : q ≠ g := fun e => by have h := HQN.out; rw [e, HW1.out] at h; cases h
            have H9 := Lib.hid (H7.out.alloc (.cells (anc (jn.code, jn.aval)).toArray 49))
            have HRC : Hid (Sv.RowC anc 2 (W8.alloc (.cells (anc (jn.code, jn.aval)).toArray 49)) (.slice (some ⟨W8.heap.size, 0, none⟩) 1 1) [(jn.code, jn.aval)]) := Lib.hid (.inr ⟨W8.heap.size, 0, 1, rfl, by simp, Nat.le_refl 1, fun i hi => by
              obtain rfl : i = 0 := by simp at hi; omega
              exact blkA_range (BlkW.new W8 49 (anc (jn.code, jn.aval)).toArray) 0 _ (by kernel_rfl)⟩)
            have g4 : W8.cell? ⟨g, 4, none⟩ = some (.slice sa y.2.said.length sc) := (H7.out.get HG7.out).cell 4
            have hzg8 := (H7.out.get HG7.out).lt
            have fg : (W8.alloc (.cells (anc (jn.code, jn.aval)).toArray 49)).cell? ⟨g, 4, none⟩ = some (.slice sa y.2.said.length sc) := (H9.out.get HG7.out).cell 4
            refine wpAnyH_ready (rs := [4, 7]) (by kernel_rfl) (by simp) ?_
            refine AllReadyH.cons rfl (fun K2 hK => ?_) (AllReadyH.cons rfl (fun K2 hK => ?_) AllReadyH.nil)
            · rw [if_pos (by rfl)]
              go_simp
              refine hK.out _ _ hS (fun _ => ?_)
              clear hK
              try simp only [Act.put, List.getElem_toArray, List.getElem_cons_succ, List.getElem_cons_zero, List.setIfInBounds_toArray, List.set_cons_zero, List.set_cons_succ]
              refine wpAnyH_ready (rs := [7]) (by kernel_rfl) (by simp) ?_
              refine AllReadyH.cons rfl (fun K3 hK => ?_) AllReadyH.nil
              rw [if_pos (by rfl)]
              go_simp
              refine hK.out _ (W8.alloc (.cells (anc (jn.code, jn.aval)).toArray 49)) (blkA_range (H9.out.get (Bx.put_self ..)) 16 _ (by kernel_rfl)) (fun _ => ?_)
              replace hS : (W8.alloc (.cells (anc (jn.code, jn.aval)).toArray 49)).rangeAt q 16 (anc (jn.code, jn.aval)) := blkA_range (H9.out.get (Bx.put_self ..)) 16 _ (by kernel_rfl)
              clear hK
              try simp only [Act.put, List.getElem_toArray, List.getElem_cons_succ, List.getElem_cons_zero, List.setIfInBounds_toArray, List.set_cons_zero, List.set_cons_succ]
              refine wpAnyH_ready (rs := [8]) (by kernel_rfl) (by simp) ?_
              refine AllReadyH.cons rfl (fun K4 hK => ?_) AllReadyH.nil
              refine Sv.step_append_row _ (c := anc) (k := 2) (fun _ => rfl) (by decide) anc_one rfl (.tmp 120) (.tmp 123) 86 rfl B 49 i5 _ 16 Tryz.underlying86 hi5 hz5 hs5 hy5 rfl (.slice sa y.2.said.length sc) y.2.said.length (Sv.flat anc y.2.said) (by rfl) (HS7.out.own H9.out) (.slice (some ⟨W8.heap.size, 0, none⟩) 1 1) [(jn.code, jn.aval)] (by rfl) HRC.out (by have := HSD1.out; simp only [maxLen]; simp; omega) (by have := HSD1.out; simp; omega) H9.out.of.2 ?_
              rintro v1 u1 hap
              obtain ⟨ao1, cp1, ev1⟩ := Sv.own_slice hap.1
              obtain ⟨bx3, hc3, hs3, hk3⟩ := H9.out.appended HS7.out hap
              have HNW : Hid (v1.ownBlock = (Value.slice sa y.2.said.length sc).ownBlock ∨ ∃ n, v1.ownBlock = some n ∧ ((bx1.put jb 176 (jc jn).toArray).put q 51 (cac jn.call jn.code jn.aval).toArray) n = none) := Lib.hid (hap.2.2.1.imp id fun h => ⟨_, h, H9.out.fresh_none⟩)
              subst ev1
              have HC3 := Lib.hid hc3
              have HS3 := Lib.hid hs3
              have HKP := Lib.hid hk3
              clear hap hc3 hs3 hk3
              have HQ3 := Lib.hid (HKP.out q _ (Bx.put_self ..) HQS.out)
              have HG3 := Lib.hid (HKP.out g _ HG7.out HGS.out)
              refine hK.out _ _ (blkA_range (HC3.out.get HQ3.out) 16 _ (by kernel_rfl)) (fun _ => ?_)
              clear hK
              replace hS : u1.rangeAt q 16 (anc (jn.code, jn.aval)) := blkA_range (HC3.out.get HQ3.out) 16 _ (by kernel_rfl)
              try simp only [Act.put, List.getElem_toArray, List.getElem_cons_succ, List.getElem_cons_zero, List.setIfInBounds_toArray, List.set_cons_zero, List.set_cons_succ]
              refine wpAnyH_take (i := 9) (v := .pointer (some ⟨g, 0, none⟩)) rfl (by kernel_rfl) (by kernel_rfl) (by kernel_rfl) (fun _ _ _ h => h) (Or.inl ⟨by rfl, fun w' _ => by go_simp⟩) hS ?_
              simp only [Act.put, List.getElem_toArray, List.getElem_cons_succ, List.getElem_cons_zero, List.setIfInBounds_toArray, List.set_cons_zero, List.set_cons_succ]
              refine wpAnyH_take (i := 10) (v := .pointer (some ⟨g, 4, none⟩)) rfl (by kernel_rfl) (by kernel_rfl) (by kernel_rfl) (fun _ _ _ h => h) (Or.inl ⟨by rfl, fun w' _ => by go_simp⟩) hS ?_
              simp only [Act.put, List.getElem_toArray, List.getElem_cons_succ, List.getElem_cons_zero, List.setIfInBounds_toArray, List.set_cons_zero, List.set_cons_succ]
              have hb3 := HC3.out.get HG3.out
              have c4 : u1.cell? ⟨g, 4, none⟩ = some (.slice sa y.2.said.length sc) := hb3.cell 4
              have f4 : u1.frozen? ⟨g, 4, none⟩ = false := hb3.frozen 4
              have hz3 := hb3.lt
              clear hb3
              refine wpAnyH_ready (rs := [11]) (by kernel_rfl) (by simp) ?_
              refine AllReadyH.cons rfl (fun K5 hK => ?_) AllReadyH.nil
              rw [if_pos (by rfl)]
              go_simp
              have hset := BlkW.set (HC3.out.get HG3.out) 4 (.slice ao1 (y.2.said.length + [(jn.code, jn.aval)].length) cp1)
              have hset2 := BlkW.set hset 2 (.pointer none)
              refine hK.out _ _ (blkA_range ((HC3.out.get HQ3.out).far hqg _) 16 _ (by kernel_rfl)) (fun _ => ?_)
              refine wpAnyH_done (by kernel_rfl) ?_ _
              have c2 : u1.cell? ⟨g, 2, none⟩ = some (.pointer (some ⟨jb, 0, none⟩)) := (HC3.out.get HG3.out).cell 2
              have f2 : u1.frozen? ⟨g, 2, none⟩ = false := (HC3.out.get HG3.out).frozen 2
              have hz4 := (HC3.out.get HG3.out).lt
              have H11 := Lib.hid (HC3.out.off HG3.out HW.out.1 (((Off.refl (fun j => j = g) u1).set (.inl rfl) 4 (.slice ao1 (y.2.said.length + [(jn.code, jn.aval)].length) cp1)).set (.inl rfl) 2 (.pointer none)) (cs' := (wkc r (.slice (some ⟨ob, 0, none⟩) y.2.ops.length oc) (.pointer none) y.2.inn (.slice ao1 (y.2.said.length + [(jn.code, jn.aval)].length) cp1)).toArray) hset2 (by decide))
              have HWK := Lib.hid (HW.out.done (r := r) HW1.out HQ.out HQN.out HKP.out HS3.out HNW.out)
              have HLF2 := Lib.hid (left_done (T := 103) (cs := (wkc r (.slice (some ⟨ob, 0, none⟩) y.2.ops.length oc) (.pointer none) y.2.inn (.slice ao1 (y.2.said.length + [(jn.code, jn.aval)].length) cp1)).toArray) HLF.out HO.out HW.out.2.1 HQ.out.2.1 HQN.out HW.out.2.2.2.2.2.2.2 HKP.out)
              have HO2 := Lib.hid (own_done HLF.out HO.out HW.out.2.2.2.2.2.2.2 HNW.out)
              have hk11 : k + 1 ≤ 199 := by have := HN.out; omega
              have zk : wrap64 ((k : Int) + 1) = ((k + 1 : Nat) : Int) := by rw [IntWalk.wrap64_in _ ⟨by omega, by omega⟩]; rfl
              have HF : Hid (LpW w E B p bs bb t rs i bx O g r ob oc R (199 - (k + 1)) ((u1.setCell ⟨g, 4, none⟩ (.slice ao1 (y.2.said.length + [(jn.code, jn.aval)].length) cp1)).setCell ⟨g, 2, none⟩ (.pointer none))) := by
                rw [show 199 - (k + 1) = n by have := HN.out; omega]
                have ok := HK2.out
                have tw := HT2.out
                rw [HWB.out] at ok tw
                exact Lib.hid ⟨(y.1, { y.2 with said := y.2.said ++ [(jn.code, jn.aval)], j := none }), _, _, H11.out, HWK.out, ok, tw, HLF2.out, HO2.out⟩
              clear hK hS hset hset2 H11 HWK HLF2 HO2 HC3 HS3 HKP HQ3 HG3 HNW HRC H9 HS7 HG7 HQS HGS HWB HSD1 H7 HN HK2 HT2 HTO HOK HLF HO HW HW1 HBZ HJJ HQ HSD HJO HGF HGE HQN HQB hqg c4 f4 g4 fg
              go_wp2
              go_roundw
              case rel => exact ⟨k + 1, hk11, by go_num, HF.out⟩
              case measure => simp [intOf]; omega
            · rw [if_pos (by rfl)]
              go_simp
              refine hK.out _ (W8.alloc (.cells (anc (jn.code, jn.aval)).toArray 49)) (blkA_range (H9.out.get (Bx.put_self ..)) 16 _ (by kernel_rfl)) (fun _ => ?_)
              replace hS : (W8.alloc (.cells (anc (jn.code, jn.aval)).toArray 49)).rangeAt q 16 (anc (jn.code, jn.aval)) := blkA_range (H9.out.get (Bx.put_self ..)) 16 _ (by kernel_rfl)
              clear hK
              try simp only [Act.put, List.getElem_toArray, List.getElem_cons_succ, List.getElem_cons_zero, List.setIfInBounds_toArray, List.set_cons_zero, List.set_cons_succ]
              refine wpAnyH_ready (rs := [4]) (by kernel_rfl) (by simp) ?_
              refine AllReadyH.cons rfl (fun K3 hK => ?_) AllReadyH.nil
              rw [if_pos (by rfl)]
              go_simp
              refine hK.out _ _ hS (fun _ => ?_)
              clear hK
              try simp only [Act.put, List.getElem_toArray, List.getElem_cons_succ, List.getElem_cons_zero, List.setIfInBounds_toArray, List.set_cons_zero, List.set_cons_succ]
              refine wpAnyH_ready (rs := [8]) (by kernel_rfl) (by simp) ?_
              refine AllReadyH.cons rfl (fun K4 hK => ?_) AllReadyH.nil
              refine Sv.step_append_row _ (c := anc) (k := 2) (fun _ => rfl) (by decide) anc_one rfl (.tmp 120) (.tmp 123) 86 rfl B 49 i5 _ 16 Tryz.underlying86 hi5 hz5 hs5 hy5 rfl (.slice sa y.2.said.length sc) y.2.said.length (Sv.flat anc y.2.said) (by rfl) (HS7.out.own H9.out) (.slice (some ⟨W8.heap.size, 0, none⟩) 1 1) [(jn.code, jn.aval)] (by rfl) HRC.out (by have := HSD1.out; simp only [maxLen]; simp; omega) (by have := HSD1.out; simp; omega) H9.out.of.2 ?_
              rintro v1 u1 hap
              obtain ⟨ao1, cp1, ev1⟩ := Sv.own_slice hap.1
              obtain ⟨bx3, hc3, hs3, hk3⟩ := H9.out.appended HS7.out hap
              have HNW : Hid (v1.ownBlock = (Value.slice sa y.2.said.length sc).ownBlock ∨ ∃ n, v1.ownBlock = some n ∧ ((bx1.put jb 176 (jc jn).toArray).put q 51 (cac jn.call jn.code jn.aval).toArray) n = none) := Lib.hid (hap.2.2.1.imp id fun h => ⟨_, h, H9.out.fresh_none⟩)
              subst ev1
              have HC3 := Lib.hid hc3
              have HS3 := Lib.hid hs3
              have HKP := Lib.hid hk3
              clear hap hc3 hs3 hk3
              have HQ3 := Lib.hid (HKP.out q _ (Bx.put_self ..) HQS.out)
              have HG3 := Lib.hid (HKP.out g _ HG7.out HGS.out)
              refine hK.out _ _ (blkA_range (HC3.out.get HQ3.out) 16 _ (by kernel_rfl)) (fun _ => ?_)
              clear hK
              replace hS : u1.rangeAt q 16 (anc (jn.code, jn.aval)) := blkA_range (HC3.out.get HQ3.out) 16 _ (by kernel_rfl)
              try simp only [Act.put, List.getElem_toArray, List.getElem_cons_succ, List.getElem_cons_zero, List.setIfInBounds_toArray, List.set_cons_zero, List.set_cons_succ]
              refine wpAnyH_take (i := 9) (v := .pointer (some ⟨g, 0, none⟩)) rfl (by kernel_rfl) (by kernel_rfl) (by kernel_rfl) (fun _ _ _ h => h) (Or.inl ⟨by rfl, fun w' _ => by go_simp⟩) hS ?_
              simp only [Act.put, List.getElem_toArray, List.getElem_cons_succ, List.getElem_cons_zero, List.setIfInBounds_toArray, List.set_cons_zero, List.set_cons_succ]
              refine wpAnyH_take (i := 10) (v := .pointer (some ⟨g, 4, none⟩)) rfl (by kernel_rfl) (by kernel_rfl) (by kernel_rfl) (fun _ _ _ h => h) (Or.inl ⟨by rfl, fun w' _ => by go_simp⟩) hS ?_
              simp only [Act.put, List.getElem_toArray, List.getElem_cons_succ, List.getElem_cons_zero, List.setIfInBounds_toArray, List.set_cons_zero, List.set_cons_succ]
              have hb3 := HC3.out.get HG3.out
              have c4 : u1.cell? ⟨g, 4, none⟩ = some (.slice sa y.2.said.length sc) := hb3.cell 4
              have f4 : u1.frozen? ⟨g, 4, none⟩ = false := hb3.frozen 4
              have hz3 := hb3.lt
              clear hb3
              refine wpAnyH_ready (rs := [11]) (by kernel_rfl) (by simp) ?_
              refine AllReadyH.cons rfl (fun K5 hK => ?_) AllReadyH.nil
              rw [if_pos (by rfl)]
              go_simp
              have hset := BlkW.set (HC3.out.get HG3.out) 4 (.slice ao1 (y.2.said.length + [(jn.code, jn.aval)].length) cp1)
              have hset2 := BlkW.set hset 2 (.pointer none)
              refine hK.out _ _ (blkA_range ((HC3.out.get HQ3.out).far hqg _) 16 _ (by kernel_rfl)) (fun _ => ?_)
              refine wpAnyH_done (by kernel_rfl) ?_ _
              have c2 : u1.cell? ⟨g, 2, none⟩ = some (.pointer (some ⟨jb, 0, none⟩)) := (HC3.out.get HG3.out).cell 2
              have f2 : u1.frozen? ⟨g, 2, none⟩ = false := (HC3.out.get HG3.out).frozen 2
              have hz4 := (HC3.out.get HG3.out).lt
              have H11 := Lib.hid (HC3.out.off HG3.out HW.out.1 (((Off.refl (fun j => j = g) u1).set (.inl rfl) 4 (.slice ao1 (y.2.said.length + [(jn.code, jn.aval)].length) cp1)).set (.inl rfl) 2 (.pointer none)) (cs' := (wkc r (.slice (some ⟨ob, 0, none⟩) y.2.ops.length oc) (.pointer none) y.2.inn (.slice ao1 (y.2.said.length + [(jn.code, jn.aval)].length) cp1)).toArray) hset2 (by decide))
              have HWK := Lib.hid (HW.out.done (r := r) HW1.out HQ.out HQN.out HKP.out HS3.out HNW.out)
              have HLF2 := Lib.hid (left_done (T := 103) (cs := (wkc r (.slice (some ⟨ob, 0, none⟩) y.2.ops.length oc) (.pointer none) y.2.inn (.slice ao1 (y.2.said.length + [(jn.code, jn.aval)].length) cp1)).toArray) HLF.out HO.out HW.out.2.1 HQ.out.2.1 HQN.out HW.out.2.2.2.2.2.2.2 HKP.out)
              have HO2 := Lib.hid (own_done HLF.out HO.out HW.out.2.2.2.2.2.2.2 HNW.out)
              have hk11 : k + 1 ≤ 199 := by have := HN.out; omega
              have zk : wrap64 ((k : Int) + 1) = ((k + 1 : Nat) : Int) := by rw [IntWalk.wrap64_in _ ⟨by omega, by omega⟩]; rfl
              have HF : Hid (LpW w E B p bs bb t rs i bx O g r ob oc R (199 - (k + 1)) ((u1.setCell ⟨g, 4, none⟩ (.slice ao1 (y.2.said.length + [(jn.code, jn.aval)].length) cp1)).setCell ⟨g, 2, none⟩ (.pointer none))) := by
                rw [show 199 - (k + 1) = n by have := HN.out; omega]
                have ok := HK2.out
                have tw := HT2.out
                rw [HWB.out] at ok tw
                exact Lib.hid ⟨(y.1, { y.2 with said := y.2.said ++ [(jn.code, jn.aval)], j := none }), _, _, H11.out, HWK.out, ok, tw, HLF2.out, HO2.out⟩
              clear hK hS hset hset2 H11 HWK HLF2 HO2 HC3 HS3 HKP HQ3 HG3 HNW HRC H9 HS7 HG7 HQS HGS HWB HSD1 H7 HN HK2 HT2 HTO HOK HLF HO HW HW1 HBZ HJJ HQ HSD HJO HGF HGE HQN HQB hqg c4 f4 g4 fg
              go_wp2
              go_roundw
              case rel => exact ⟨k + 1, hk11, by go_num, HF.out⟩
              case measure => simp [intOf]; omega
          · have HKN := Lib.hid hk12'
            obtain ⟨v0, v1, v2, v3⟩ := HJO.out.2.2 hk12'
            have hkb : ((jj.go y.1.st.last).call.kind == 12) = false := by simpa using hk12'
            obtain ⟨kk, hkk⟩ : ∃ kk, kk = (jj.go y.1.st.last).call.kind := ⟨_, rfl⟩
            rw [← hkk] at k0 hkb
            clear hk12' hkk
            go_wp2_with fail
            clear k0 g0 hzq hzg7 hkb
            rw [v0, v1] at H7
            have HC8 := Lib.hid (show Cw w7.drew w E B p bs bb t (rs.set i (r, y.1)) ((bx1.put jb 176 (jc (jj.go y.1.st.last)).toArray).put q 51 (clc (jj.go y.1.st.last).call).toArray) from H7.out.drew)
            have HBG0 := HC8.out.Begin_at hi HBZ.out (jj.go y.1.st.last).call v2 v3
            have HWK := Lib.hid (HW.out.went (r := r) (q := q) (T := 51) (cs := (clc (jj.go y.1.st.last).call).toArray) (j' := jj.go y.1.st.last) HW1.out HQ.out HQN.out)
            have HLF2 := Lib.hid (left_new (b := q) (left_put HLF.out HO.out HQ.out.2.1 176 (jc (jj.go y.1.st.last)).toArray) ((Bx.put_ne _ _ _ (fun e => by have h := HQN.out; rw [e, HQ.out.2.2] at h; cases h)).trans HQN.out) 51 (clc (jj.go y.1.st.last).call).toArray)
            have hwb : wbeg y = (y.1.begins (jj.go y.1.st.last).call, { y.2 with j := some (jj.go y.1.st.last) }) := by
              unfold wbeg
              rw [HJJ.out]
              simp only [HKN.out, if_false]
            have HWB := Lib.hid hwb
            clear hwb v0 v1 v2 v3
            have HG8 := Lib.hid (HGF.out q HQN.out (clc (jj.go y.1.st.last).call).toArray)
            generalize jj.go y.1.st.last = jn at HC8 HBG0 HWK HLF2 HWB HG8
            have HBG : Hid (Calls Tryz.prog 18 #[.pointer (some ⟨r, 0, none⟩), .agg (clc jn.call).toArray] w7.drew _) := Lib.hid HBG0
            clear HBG0
            refine wp_region_held (S := fun w' => w'.cell? ⟨g, 0, none⟩ = some (.pointer (some ⟨r, 0, none⟩)) ∧ w'.rangeAt q 0 (clc jn.call)) (by kernel_rfl) ?_
            show wpAnyH _ _ _ _ _ 7 #[false, false, false, false, false, false, false] _ w7.drew
            generalize w7.drew = W8 at HC8 HBG ⊢
            have hS : W8.cell? ⟨g, 0, none⟩ = some (.pointer (some ⟨r, 0, none⟩)) ∧ W8.rangeAt q 0 (clc jn.call) := ⟨(HC8.out.get HG8.out).cell 0, blkA_range (HC8.out.get (Bx.put_self ..)) 0 _ (by kernel_rfl)⟩
            refine wpAnyH_take (i := 0) (v := .pointer (some ⟨g, 0, none⟩)) rfl (by kernel_rfl) (by kernel_rfl) (by kernel_rfl) (fun _ _ _ h => h) (Or.inl ⟨by rfl, fun w' _ => by go_simp⟩) hS ?_
            simp only [Act.put, List.getElem_toArray, List.getElem_cons_succ, List.getElem_cons_zero, List.setIfInBounds_toArray, List.set_cons_zero, List.set_cons_succ]
            refine wpAnyH_take (i := 1) (v := .pointer (some ⟨g, 0, none⟩)) rfl (by kernel_rfl) (by kernel_rfl) (by kernel_rfl) (fun _ _ _ h => h) (Or.inl ⟨by rfl, fun w' _ => by go_simp⟩) hS ?_
            simp only [Act.put, List.getElem_toArray, List.getElem_cons_succ, List.getElem_cons_zero, List.setIfInBounds_toArray, List.set_cons_zero, List.set_cons_succ]
            refine wpAnyH_take (i := 2) (v := .pointer (some ⟨g, 0, none⟩)) rfl (by kernel_rfl) (by kernel_rfl) (by kernel_rfl) (fun _ _ _ h => h) (Or.inl ⟨by rfl, fun w' _ => by go_simp⟩) hS ?_
            simp only [Act.put, List.getElem_toArray, List.getElem_cons_succ, List.getElem_cons_zero, List.setIfInBounds_toArray, List.set_cons_zero, List.set_cons_succ]
            refine wpAnyH_take (i := 3) (v := .pointer (some ⟨r, 0, none⟩)) rfl (by kernel_rfl) (by kernel_rfl) (by kernel_rfl) (fun _ _ _ h => h) (Or.inl ⟨by rfl, fun w' h => by have h2 := h.1; go_simp⟩) hS ?_
            simp only [Act.put, List.getElem_toArray, List.getElem_cons_succ, List.getElem_cons_zero, List.setIfInBounds_toArray, List.set_cons_zero, List.set_cons_succ]
            refine wpAnyH_take (i := 4) (v := .agg (clc jn.call).toArray) rfl (by kernel_rfl) (by kernel_rfl) (by kernel_rfl) (fun _ _ _ h => h) (yieldsIf_load_mid (by rfl) 51 (.tmp 8) rfl q 0 rfl (clc jn.call) _ (fun w' h => h.2) Tryz.underlying51 rfl infoCl) hS ?_
            simp only [Act.put, List.getElem_toArray, List.getElem_cons_succ, List.getElem_cons_zero, List.setIfInBounds_toArray, List.set_cons_zero, List.set_cons_succ]
            refine wpAnyH_ready (rs := [5]) (by kernel_rfl) (by simp) ?_
            refine AllReadyH.cons rfl (fun K9 hK => ?_) AllReadyH.nil
            rw [if_pos (by rfl)]
            go_simp
            refine HBG.out.mono ?_
            rintro e w9 ⟨rfl, h9⟩
            refine hK.out _ _ ⟨(h9.out.get HG8.out).cell 0, blkA_range (h9.out.get (Bx.put_self ..)) 0 _ (by kernel_rfl)⟩ (fun _ => ?_)
            replace hS := And.intro ((h9.out.get HG8.out).cell 0) (blkA_range (h9.out.get (Bx.put_self ..)) 0 (clc jn.call) (by kernel_rfl))
            clear hK
            refine wpAnyH_take (i := 6) (v := .bool false) rfl (by kernel_rfl) (by kernel_rfl) (by kernel_rfl) (fun _ _ _ h => h) (Or.inl ⟨by rfl, fun w' _ => by go_simp⟩) hS ?_
            simp only [Act.put, List.getElem_toArray, List.getElem_cons_succ, List.getElem_cons_zero, List.setIfInBounds_toArray, List.set_cons_zero, List.set_cons_succ]
            refine wpAnyH_done (by kernel_rfl) ?_ _
            have hk11 : k + 1 ≤ 199 := by have := HN.out; omega
            have zk : wrap64 ((k : Int) + 1) = ((k + 1 : Nat) : Int) := by rw [IntWalk.wrap64_in _ ⟨by omega, by omega⟩]; rfl
            have HF : Hid (LpW w E B p bs bb t rs i bx O g r ob oc R (199 - (k + 1)) w9) := by
              rw [show 199 - (k + 1) = n by have := HN.out; omega]
              have ok := HK2.out
              have tw := HT2.out
              rw [HWB.out] at ok tw
              exact Lib.hid ⟨_, _, _, h9.out, HWK.out, ok, tw, HLF2.out, HO.out⟩
            clear hS h9 HC8 HBG HWK HLF2 HWB HG8 H7 HN HK2 HT2 HTO HOK HLF HO HW HW1 HBZ HJJ HQ HSD HJO HGF HGE HQN HQB HKN
            go_wp2
            go_roundw
            case rel => exact ⟨k + 1, hk11, by go_num, HF.out⟩
            case measure => simp [intOf]; omega
end
end Go.Proofs.YtihjklimcchkhaaGreatDoor.Cq
