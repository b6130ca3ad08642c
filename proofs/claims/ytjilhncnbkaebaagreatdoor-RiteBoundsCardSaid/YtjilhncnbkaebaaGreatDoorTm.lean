/- The walk of RiteBounds. A template (fill.py). -/
import Derived.Test.YtjilhncnbkaebaaGreatDoorTl
namespace Go.Proofs.YtjilhncnbkaebaaGreatDoor
open Go.RowKit Go.Extern.Stop Go.Stop Go.Extern Go.Sort
def BdRel (w : World) (E : Flt → Addr) (B p bs bb n thr most g len : Nat) (vi : Value) (wr : World) : Prop :=
  ∃ (i : Nat) (t : St) (ts : List Th), i ≤ len ∧ i ≤ 3000 ∧ vi = .int .i64 (i : Int) ∧ t.steps ≤ 1 + i ∧ Yd wr E B p bs bb t ts ∧ GI n thr most t ts ∧ RowOk g ts ∧ Below B w wr
set_option maxRecDepth 100000 in
set_option maxHeartbeats 4000000 in
theorem bounds_any (E : Flt → Addr) (x0 x1 x2 : Int) (v : Value) (xs : List Int) (w : World) (L : Env w E) (hv : Row w v xs) :
    Calls Tryz.prog 4 #[.agg #[.int .i64 x0, .int .i64 x1, .int .i64 x2], v] w (True1 w) := by
  have HL := Lib.hid L
  have hB0 := L.size
  have HV := Lib.hid hv
  obtain ⟨ao, cp, rfl⟩ := hv.slice
  obtain ⟨k0, hk0, hx0⟩ := u64_modB x0 6 (by omega)
  obtain ⟨k1, hk1, hx1⟩ := u64_modB x1 12 (by omega)
  obtain ⟨k2, hk2, hx2⟩ := u64_modB x2 200 (by omega)
  have hw0 : wrap64 ((IntKind.u64.wrap x0).tmod 6) = (k0 : Int) := by
    have e : (IntKind.u64.wrap x0).tmod 6 = (k0 : Int) := hx0
    rw [e]
    exact IntWalk.wrap64_in _ ⟨by omega, by omega⟩
  have hw1 : wrap64 ((IntKind.u64.wrap x1).tmod 12) = (k1 : Int) := by
    have e : (IntKind.u64.wrap x1).tmod 12 = (k1 : Int) := hx1
    rw [e]
    exact IntWalk.wrap64_in _ ⟨by omega, by omega⟩
  have hw2 : wrap64 ((IntKind.u64.wrap x2).tmod 200) = (k2 : Int) := by
    have e : (IntKind.u64.wrap x2).tmod 200 = (k2 : Int) := hx2
    rw [e]
    exact IntWalk.wrap64_in _ ⟨by omega, by omega⟩
  obtain ⟨thr, hthr⟩ : ∃ n : Nat, n = k0 + 1 := ⟨_, rfl⟩
  obtain ⟨most, hmost⟩ : ∃ n : Nat, n = k1 + 1 := ⟨_, rfl⟩
  obtain ⟨n, hn⟩ : ∃ n : Nat, n = k2 + 1 := ⟨_, rfl⟩
  have hs0 : (1 : Int) + (k0 : Int) = (thr : Int) := by omega
  have hs1 : (1 : Int) + (k1 : Int) = (most : Int) := by omega
  have hs2 : (1 : Int) + (k2 : Int) = (n : Int) := by omega
  have t1 : 1 ≤ thr := by omega
  have t6 : thr ≤ 6 := by omega
  have m1 : 1 ≤ most := by omega
  have m12 : most ≤ 12 := by omega
  have n200 : n ≤ 200 := by omega
  clear hx0 hx1 hx2 L hv hthr hmost hn hk0 hk1 hk2
  go_enter Tryz.func4, Tryz.ntmps4
  go_wp2_with fail
  refine (awake_is _ (E .arg) ((HL.out.keep (below_alloc (Below.refl _ _) _)).arg)).mono ?_
  rintro e w1 ⟨rfl, hb⟩
  have B1 := Lib.hid (show Below w.heap.size w w1 from (below_alloc (Below.refl w.heap.size w) _).trans (hb.mono (by rw [World.size_alloc]; omega)))
  have X1 := (BlkW.new w 41 #[.int .i64 x0, .int .i64 x1, .int .i64 x2]).below hb
  have c0 := X1.cell 0
  have c1 := X1.cell 1
  have c2 := X1.cell 2
  have z1 := X1.lt
  simp only [List.getElem?_toArray, List.getElem?_cons_succ, List.getElem?_cons_zero] at c0 c1 c2
  clear hb X1
  have hB : 8 ≤ w1.heap.size := Nat.le_trans hB0 B1.out.size
  have HV1 := Lib.hid (HV.out.keep B1.out)
  clear HV
  go_wp2_with fail
  refine (yard_is E w1 (HL.out.keep B1.out) 2 thr most n (by omega) (by omega) (by omega) (by omega)).mono ?_
  rintro e w2 ⟨p, bs, bb, g, cap, ts, rfl, hl, Y2, hF, hR, C2⟩
  have HG := Lib.hid (GI.new (n := n) hl hF ⟨t1, t6⟩ ⟨m1, by omega⟩ (by omega))
  have HR := Lib.hid (show RowOk g ts from hR)
  clear hF hR hl c0 c1 c2 z1
  go_wp2
  go_loopw [9] (BdRel w1 E w1.heap.size p bs bb n thr most g xs.length) (fun i _ => 3001 - (intOf i).toNat)
  case atStart => exact ⟨0, _, ts, by omega, by omega, rfl, Nat.le_refl _, Y2.out, HG.out, HR.out, C2.out⟩
  case round =>
    obtain ⟨i, t, us, hi, hi3, rfl, hst, hY, hG, hR, hbel⟩ := hrel
    obtain ⟨wo, rfl⟩ : ∃ wo : World, wo = wr := ⟨_, rfl⟩
    replace HG := Lib.hid hG
    replace HR := Lib.hid hR
    have HY := Lib.hid hY
    have HB := Lib.hid hbel
    have HST := Lib.hid hst
    clear hY hG hR hbel hst Y2 C2
    by_cases hlt : i < xs.length ∧ i < 3000
    · obtain ⟨hlt, hlt3⟩ := hlt
      rcases HV1.out with ⟨_, e⟩ | ⟨bx, off, cap', e, hbx, hcap, hcell⟩
      · subst e; exact absurd hlt (Nat.not_lt_zero _)
      · injection e with e1 e2 e3
        subst e1
        obtain ⟨y, hy⟩ : ∃ y, y = xs[i] := ⟨_, rfl⟩
        have hc := hcell i hlt
        rw [← hy] at hc
        have cx : wo.cell? ⟨bx, off + i, none⟩ = some (.int .i64 y) := by rw [HB.out.cell (p := ⟨bx, off + i, none⟩) hbx]; exact hc
        clear hc hcell hy e2 e3
        obtain ⟨k, hk, hky⟩ := u64_modB y thr (by omega)
        have j1 : (i : Int) < xs.length := by omega
        have j2 : (i : Int) < 3000 := by omega
        have j3 : (0 : Int) < thr := by omega
        have k1 : (k : Int) < (thr : Int) := by omega
        have k2 : (k : Int) < 6 := by omega
        have hku : k < us.length := by rw [HG.out.len]; exact hk
        have hrow := HY.out.row us[k] (List.getElem_mem hku)
        obtain ⟨hg1, hg2⟩ := HR.out k hku
        rw [hg1] at hrow
        have zg := hrow.lt
        have cg := hrow.cell k
        rw [hg2] at cg
        have SG := Lib.hid (step_gi HY.out HG.out HR.out hku (by have := HST.out; omega))
        generalize us[k].b = ub at cg SG
        generalize us[k].r = ur at SG
        clear hrow hg1 hg2
        go_wp2_with fail
        refine SG.out.mono ?_
        rintro e w4 ⟨rfl, t', vs, hvl, hts, Y4, G4, R4, B4, m, K, hRI, hf1, hf2, cr, zr⟩
        obtain ⟨sv, fv, nv, hRP⟩ := hRI.out
        have NI := Lib.hid (Notes_is hRP hf2)
        have HTS := Lib.hid hts
        obtain ⟨N, hN⟩ : ∃ N, N = m.notes.length := ⟨_, rfl⟩
        have hNb : ¬ (most : Int) + (thr : Int) * 9 < (N : Int) := by omega
        have HN := Lib.hid hN
        clear hRP hRI hf1 hf2 hvl hts SG cg zg cx hN HY HG HR
        go_wp2_with fail
        refine NI.out.mono ?_
        rintro e w5 ⟨u, rfl, RN, B5⟩
        obtain ⟨ao5, cp5, e5⟩ := RN.out.slice
        rw [← HN.out] at e5
        subst e5
        have Y5 := Lib.hid (Y4.out.below B5.out)
        have B6 := Lib.hid (show Below w1.heap.size w1 w5 from (HB.out.trans B4.out).trans (B5.out.mono (Nat.le_trans (HB.out.trans B4.out).size (Nat.le_refl _))))
        clear RN B5 NI cr zr Y4 B4 HB
        go_wp2
        refine ⟨⟨i + 1, t', vs, by omega, by omega, by go_num, by have := HTS.out; have := HST.out; omega, Y5.out, G4.out, R4.out, B6.out⟩, by simp [intOf]; omega⟩
    · have hlt' : ¬ (i : Int) < xs.length ∨ ((i : Int) < xs.length ∧ ¬ (i : Int) < 3000) := by omega
      clear hlt HY HG HR
      rcases hlt' with j1 | ⟨j1, j2⟩
      all_goals
        go_wp2
        go_ret
        exact ⟨rfl, B1.out.trans (HB.out.mono B1.out.size)⟩
end Go.Proofs.YtjilhncnbkaebaaGreatDoor
