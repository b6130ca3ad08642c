/- The walk of PileEmpty. A template (fill.py). -/
import Derived.Test.YtihjklimcchkhaaGreatDoorPQ
import Derived.Test.YtihjklimcchkhaaGreatDoorPT
import Derived.Test.YtihjklimcchkhaaGreatDoorPU
namespace Go.Proofs.YtihjklimcchkhaaGreatDoor
open Go.RowKit Go.Extern.Stop Go.Stop Go.Extern Go.Sort
theorem u64_mod_ (x : Int) (m : Nat) (hm : 0 < m) : ∃ n : Nat, n < m ∧ (IntKind.u64.wrap x).tmod (m : Int) = n := by
  have h0 : 0 ≤ IntKind.u64.wrap x := by rw [IntKind.wrap_u64]; omega
  rw [Int.tmod_eq_emod_of_nonneg h0]
  have h1 := Int.emod_nonneg (IntKind.u64.wrap x) (show (m : Int) ≠ 0 by omega)
  have h2 := Int.emod_lt_of_pos (IntKind.u64.wrap x) (show (0 : Int) < m by omega)
  exact ⟨((IntKind.u64.wrap x) % (m : Int)).toNat, by omega, by omega⟩
/-- A slice of three operations. -/
def o3c (b : Nat) : List Value := [.slice (some ⟨b, 0, none⟩) 3 3]
def o3s : List Value := [.int .i64 2, .int .i64 0, .int .i64 0, .int .i64 0, .int .i64 3, .int .i64 0, .int .i64 0, .int .i64 0, .int .i64 2, .int .i64 0, .int .i64 0, .int .i64 0]
theorem o3c_one (b : Nat) : ∀ u ∈ o3c b, u.oneCell' = true := fun u hu => by
  simp only [o3c, List.mem_cons, List.not_mem_nil, or_false] at hu
  subst hu; rfl
theorem infoOps : (Tryz.prog.info? 79).map (fun i => (i.zero, i.size, i.bytes)) = some (some (.slice none 0 0), 1, 24) := by kernel_rfl
theorem Cells_em (t : St) (h : t = ydSt 3) : Em t := by
  subst h
  exact ⟨rfl, rfl, rfl, rfl, rfl, rfl, rfl⟩
/-- Amid the loop that lays the operations. -/
def OpRel (w : World) (B n : Nat) (lv vi : Value) (wr : World) : Prop :=
  ∃ (i : Nat) (ob : Nat → Nat), i ≤ n ∧ vi = .int .i64 (i : Int) ∧ wr.ownsRow B 79 1 lv i (Sv.flat o3c ((List.range i).map ob)) ∧ (∀ j, j < i → BlkW wr (ob j) 78 o3s.toArray) ∧ Below B w wr
/-- Amid the loop of turns. -/
def TnRel (w : World) (E : Flt → Addr) (B p bs bb n lb : Nat) (g : Nat → Nat) (len : Nat) (vi : Value) (wr : World) : Prop :=
  ∃ (i : Nat) (t : St) (x : Nat → Rt × Wr), i ≤ len ∧ i ≤ 500 ∧ vi = .int .i64 (i : Int) ∧ t.steps ≤ 1 + i ∧ RunOn t n x ∧ CrewOn wr w E B p bs bb t n g lb x
theorem done_said {y : Rt × Wr} (h : doneB y = true) : y.2.said = [(2, 0), (2, 0), (2, 0)] := by
  unfold doneB at h
  simp only [Bool.and_eq_true, decide_eq_true_eq] at h
  exact h.2
theorem wNew_start (e : Int) (n : Nat) (j : Nat) : wNew e n 2 (fun _ => ops3) j = wStart e j n := rfl
theorem heldA : Tryz.prog.stoodInHeld 49 = false := by kernel_rfl
theorem guardA : Tryz.prog.eqGuardType Tryz.prog.depth 49 = false := by kernel_rfl
theorem neA (w : World) : (binOp .neq 49 (.agg #[.int .i64 2, .int .i64 0]) (.agg #[.int .i64 2, .int .i64 0])).run Tryz.prog w = .ok (.bool false) w := by kernel_rfl
theorem made_p {w : World} {E : Flt → Addr} {B p bs bb : Nat} {t : St} (h : PlotAt w E B p bs bb t) (hm : t.made = 0) : Calls Tryz.prog 35 #[.pointer (some ⟨p, 0, none⟩)] w fun e w' => e = .returned (.int .i64 0) ∧ w = w' := by
  obtain ⟨⟨v, fv, hq⟩, o, L⟩ := h
  have := made_any hq
  rw [hm] at this
  exact this
theorem fault_p {w : World} {E : Flt → Addr} {B p bs bb : Nat} {t : St} (h : PlotAt w E B p bs bb t) (hf : t.fault = none) : Calls Tryz.prog 15 #[.pointer (some ⟨p, 0, none⟩)] w fun e w' => e = .returned .nilIface ∧ Below w.heap.size w w' := by
  obtain ⟨⟨v, fv, hq⟩, o, L⟩ := h
  exact fault_none hq hf
theorem said3 {W w : World} {E : Flt → Addr} {B p bs bb : Nat} {t : St} {n lb : Nat} {g : Nat → Nat} {x : Nat → Rt × Wr} (h : CrewOn W w E B p bs bb t n g lb x) {k : Nat} (hk : k < n) (hd : doneB (x k) = true) :
    ∃ sb cap, W.cell? ⟨g k, 4, none⟩ = some (.slice (some ⟨sb, 0, none⟩) 3 cap) ∧ g k < W.heap.size ∧ sb < W.heap.size ∧ 3 ≤ cap ∧ ∀ i, i < 3 → W.cell? ⟨sb, i * 2, none⟩ = some (.int .i64 2) ∧ W.cell? ⟨sb, i * 2 + 1, none⟩ = some (.int .i64 0) := by
  obtain ⟨sb, cap, h1, h2, h3, h4, h5⟩ := h.said hk (done_said hd) (by decide)
  refine ⟨sb, cap, h1, h2, h3, h4, fun i hi => ?_⟩
  have h6 := h5 i hi
  have : i = 0 ∨ i = 1 ∨ i = 2 := by omega
  rcases this with rfl | rfl | rfl <;> exact h6
set_option maxRecDepth 100000 in
set_option maxHeartbeats 4000000 in
theorem pempty_any (E : Flt → Addr) (x0 x1 : Int) (v : Value) (xs : List Int) (w : World) (L : Env w E) (hv : Row w v xs) :
    Calls Tryz.prog 8 #[.int .i64 x0, .int .i64 x1, v] w (True1 w) := by
  have HL := Lib.hid L
  have hB0 := L.size
  have HV := Lib.hid hv
  obtain ⟨ao, cp, rfl⟩ := hv.slice
  obtain ⟨k0, hk0, hx0⟩ := u64_mod_ x0 5 (by omega)
  obtain ⟨k1, hk1, hx1⟩ := u64_mod_ x1 6 (by omega)
  have hw0 : wrap64 ((IntKind.u64.wrap x0).tmod 5) = (k0 : Int) := by
    have e : (IntKind.u64.wrap x0).tmod 5 = (k0 : Int) := hx0
    rw [e]
    exact IntWalk.wrap64_in _ ⟨by omega, by omega⟩
  have hw1 : wrap64 ((IntKind.u64.wrap x1).tmod 6) = (k1 : Int) := by
    have e : (IntKind.u64.wrap x1).tmod 6 = (k1 : Int) := hx1
    rw [e]
    exact IntWalk.wrap64_in _ ⟨by omega, by omega⟩
  obtain ⟨n, hn⟩ : ∃ n : Nat, n = k1 + 1 := ⟨_, rfl⟩
  obtain ⟨e, he⟩ : ∃ e : Int, e = (k0 : Int) + 1 := ⟨_, rfl⟩
  have hs0 : (1 : Int) + (k0 : Int) = e := by omega
  have hs1 : (1 : Int) + (k1 : Int) = (n : Int) := by omega
  have t1 : 1 ≤ n := by omega
  have t6 : n ≤ 6 := by omega
  have e1 : 1 ≤ e ∧ e ≤ 5 := by omega
  have HRS : Hid (∀ j, j < n → runB 100 (wStart e j n) = true) := Lib.hid fun j hj => by rw [he]; exact run_start hk0 ⟨t1, t6⟩ hj
  clear hx0 hx1 L hv hn he hk0 hk1
  go_enter Tryz.func8, Tryz.ntmps8
  go_wp2_with fail
  refine (Pw.awake_is _ (E .arg) HL.out.arg).mono ?_
  rintro f w1 ⟨rfl, hb⟩
  have B1 := Lib.hid hb
  have hB : 9 ≤ w1.heap.size := Nat.le_trans hB0 B1.out.size
  have HV1 := Lib.hid (HV.out.keep B1.out)
  clear HV hb
  go_wp2
  go_loopw [7, 8] (OpRel w1 w1.heap.size n) (fun _ i _ => n - (intOf i).toNat)
  case atStart =>
    exact ⟨0, fun _ => 0, by omega, rfl, World.ownsRow_lit w1 #[] 0 (Nat.le_refl _) (by simp [maxLen]) rfl, fun j hj => absurd hj (Nat.not_lt_zero j), below_alloc (Below.refl _ _) _⟩
  case round =>
    obtain ⟨i, ob, hi, rfl, hown, hobs, hbel⟩ := hrel
    obtain ⟨wo, rfl⟩ : ∃ wo : World, wo = wr := ⟨_, rfl⟩
    have HO := Lib.hid hown
    have HOB := Lib.hid hobs
    have HB := Lib.hid hbel
    clear hown hobs hbel
    by_cases hlt : i < n
    · have j1 : (i : Int) < n := by omega
      obtain ⟨i0, hi0, hz0, hs0', hy0⟩ := info_parts infoOps
      have HO1 := Lib.hid ((HO.out.alloc (.cells o3s.toArray 78)))
      have hll : ((List.range i).map ob).length = i := by simp
      have hsz := HB.out.size
      go_wp2_with (at_builtin; refine Sv.wpList_append_row _ (c := o3c) (k := 1) (fun _ => rfl) (by decide) o3c_one rfl _ _ 76 rfl w1.heap.size 79 i0 (.slice none 0 0) 24 Tryz.underlying76 hi0 hz0 hs0' hy0 rfl u7 i _ (by rfl) (HO1.out.alloc _) (.slice (some ⟨wo.heap.size + 1, 0, none⟩) 1 1) [wo.heap.size] (by rfl) (.inr ⟨wo.heap.size + 1, 0, 1, rfl, ?c1, Nat.le_refl 1, fun k hk => ?c2⟩) ?c3 ?c4 ?c5 ?_)
      case c1 => simp only [World.size_alloc]; omega
      case c2 =>
        obtain rfl : k = 0 := by simp at hk; omega
        have := BlkW.new (wo.alloc (.cells o3s.toArray 78)) 79 (o3c wo.heap.size).toArray
        rw [World.size_alloc] at this
        exact blkA_range this 0 _ (by kernel_rfl)
      case c3 => simp [maxLen]; omega
      case c4 => simp; omega
      case c5 => simp only [World.size_alloc]; omega
      intro v' w6 hap
      obtain ⟨ao1, cp1, ev1⟩ := Sv.own_slice hap.1
      obtain ⟨ho', hg', hv', hbl'⟩ := hap
      have hnew : BlkW w6 wo.heap.size 78 o3s.toArray := by
        have h0 := (BlkW.new wo 78 o3s.toArray).alloc (.cells (o3c wo.heap.size).toArray 79)
        exact (hg'.block _ h0.lt (fun e => own_ne (HO1.out.alloc _) h0 (by decide) e.symm)).trans h0
      have hold : ∀ j, j < i → BlkW w6 (ob j) 78 o3s.toArray := fun j hj => by
        have h0 := ((HOB.out j hj).alloc (.cells o3s.toArray 78)).alloc (.cells (o3c wo.heap.size).toArray 79)
        exact (hg'.block _ h0.lt (fun e => own_ne (HO1.out.alloc _) h0 (by decide) e.symm)).trans h0
      have HOB6 : Hid (∀ j, j < i + 1 → BlkW w6 (upd ob i wo.heap.size j) 78 o3s.toArray) := Lib.hid fun j hj => by
        by_cases hji : j = i
        · subst hji; rw [upd_self]; exact hnew
        · rw [upd_ne _ _ hji]; exact hold j (by omega)
      have HO6 : Hid (w6.ownsRow w1.heap.size 79 1 v' (i + 1) (Sv.flat o3c ((List.range (i + 1)).map (upd ob i wo.heap.size)))) := Lib.hid (by
        rw [← rangeMap_succ, Sv.flat_app]
        exact ho')
      have HB6 := Lib.hid (hbl' w1 ((HB.out.alloc HB.out.size _).alloc (by simp only [World.size_alloc]; omega) _))
      generalize upd ob i wo.heap.size = ob' at HOB6 HO6
      clear ho' hg' hv' hbl' hnew hold HO HOB HB HO1 hll hi0 hz0 hs0' hy0 hsz
      subst ev1
      go_wp2
      refine ⟨⟨i + 1, ob', by omega, by go_num, HO6.out, HOB6.out, HB6.out⟩, by simp [intOf]; omega⟩
    · obtain rfl : n = i := by omega
      have j1 : ¬ ((n : Int) < n) := by omega
      rcases HO.out.2 with ⟨_, e0⟩ | ⟨ov, cov, cur, rfl, hge, hblk, hnc, hcm, hcs, htk⟩
      · omega
      · have HOV : Hid (∀ j, j < n → wo.cell? ⟨ov, j, none⟩ = some (.slice (some ⟨ob j, 0, none⟩) (ops3).length 3)) := Lib.hid fun j hj => by
          have h1 : (cur.toList.take (n * 1))[j]? = some (.slice (some ⟨ob j, 0, none⟩) 3 3) := by
            rw [htk]
            have := Sv.flat_at (c := o3c) (k := 1) (fun _ => rfl) ((List.range n).map ob) j 0 (by simpa using hj) (by omega)
            simp only [Nat.mul_one, Nat.add_zero] at this
            rw [this]
            simp [o3c]
          rw [List.getElem?_take_of_lt (by omega)] at h1
          have hb : BlkW wo ov 79 cur := hblk
          rw [BlkW.cell hb]
          show cur[j]? = some (.slice (some ⟨ob j, 0, none⟩) 3 3)
          simpa using h1
        have HCW := Lib.hid (crew_is E wo (HL.out.keep (B1.out.trans (HB.out.mono B1.out.size))) e n 2 3 e1 ⟨t1, t6⟩ (by omega) (by omega) (fun _ => ops3) ob (fun _ => 3) (fun _ => o3s.toArray) ov cov HOV.out (fun j hj => ⟨HOB.out j hj, Nat.le_refl _, fun k hk => by
          have hk3 : k < 3 := hk
          have : k = 0 ∨ k = 1 ∨ k = 2 := by omega
          rcases this with rfl | rfl | rfl <;> rfl⟩) hnc)
        have B2 : Hid (Below w.heap.size w wo) := Lib.hid (B1.out.trans (HB.out.mono B1.out.size))
        have HBO : Hid (Below w1.heap.size w1 wo) := HB
        clear HO HOB HB hge hblk hcm hcs htk HOV
        go_wp2_with fail
        refine HCW.out.mono ?_
        rintro f w5 ⟨p, bs, bb, g, lb, cap, rfl, hcap, C5, B5⟩
        have hBo : w.heap.size ≤ wo.heap.size := B2.out.size
        have hB1o : w1.heap.size ≤ wo.heap.size := HBO.out.size
        clear HCW B5
        go_wp2
        go_loopw [11] (TnRel wo E wo.heap.size p bs bb n lb g xs.length) (fun i _ => 501 - (intOf i).toNat)
        case atStart => exact ⟨0, _, _, by omega, by omega, rfl, Nat.le_refl _, ⟨Cells_em _ rfl, fun j hj => ⟨99, Nat.le_refl _, HRS.out j hj⟩⟩, C5.out⟩
        case round =>
          obtain ⟨i, t, x, hi5, hi500, rfl, hst, hrun, hcr⟩ := hrel
          obtain ⟨wt, rfl⟩ : ∃ wt : World, wt = wr := ⟨_, rfl⟩
          have HC := Lib.hid hcr
          have HR := Lib.hid hrun
          have HST := Lib.hid hst
          have HBT : Hid (Below w.heap.size w wt) := Lib.hid (B2.out.trans (HC.out.of.1.mono hBo))
          have HB1T : Hid (Below w1.heap.size w1 wt) := Lib.hid (HBO.out.trans (HC.out.of.1.mono hB1o))
          clear hcr hrun hst C5
          by_cases hlt : i < xs.length ∧ i < 500
          · obtain ⟨hlt, hlt5⟩ := hlt
            rcases HV1.out with ⟨_, e⟩ | ⟨bx, off, cap', e, hbx, hcap', hcell⟩
            · subst e; exact absurd hlt (Nat.not_lt_zero _)
            · injection e with e1 e2 e3
              subst e1
              obtain ⟨y, hy⟩ : ∃ y, y = xs[i] := ⟨_, rfl⟩
              have hc := hcell i hlt
              rw [← hy] at hc
              have cx : wt.cell? ⟨bx, off + i, none⟩ = some (.int .i64 y) := by rw [HB1T.out.cell (p := ⟨bx, off + i, none⟩) hbx]; exact hc
              have hzx : bx < wt.heap.size := lt_of_cell cx
              clear hc hcell hy e2 e3
              obtain ⟨k, hk, hky⟩ := u64_mod_ y n (by omega)
              have j1 : (i : Int) < xs.length := by omega
              have j2 : (i : Int) < 500 := by omega
              have j3 : (0 : Int) < n := by omega
              have k1 : (k : Int) < (n : Int) := by omega
              have k2 : (k : Int) < 6 := by omega
              obtain ⟨cr, zr⟩ := HC.out.row hk
              obtain ⟨f, hf9, hf⟩ := HR.out.2 k hk
              obtain ⟨u1, u2, u3, u4, u5, u6⟩ := runOn_upd HR.out hk hf hf9
              obtain ⟨q, hq⟩ : ∃ q, (wto 199 (x k)).1.st.busy = q := ⟨_, rfl⟩
              have HS := Lib.hid (HC.out.step hk u1 (by have := HST.out; omega) u2 hq)
              have HU3 := Lib.hid u3
              have hss : (wStepT t (x k)).steps ≤ 1 + (i + 1) := by have := HST.out; omega
              have HSS := Lib.hid hss
              clear u1 u2 u3 u4 u5 u6 hq hss hf
              go_wp2_with fail
              refine HS.out.mono ?_
              rintro f9 w6 ⟨rfl, h6⟩
              clear HS HC HR HST HBT HB1T cr zr cx hzx
              go_wp2
              refine ⟨⟨i + 1, _, _, by omega, by omega, by go_num, HSS.out, HU3.out, h6.out⟩, by simp [intOf]; omega⟩
          · have hlt' : ¬ (i : Int) < xs.length ∨ ((i : Int) < xs.length ∧ ¬ (i : Int) < 500) := by omega
            clear hlt
            have HRT := Lib.hid (rest_is HC.out HR.out t6 hcap (by have := HST.out; omega))
            rcases hlt' with j1 | ⟨j1, j2⟩
            all_goals
              go_wp2_with fail
              refine HRT.out.mono ?_
              rintro f6 w6 ⟨rfl, t', x', hem, hdn, C6⟩
              have HM := Lib.hid (made_p C6.out.plot.1 hem.made)
              have HFA := Lib.hid (fault_p C6.out.plot.1 hem.fault)
              have HEM := Lib.hid hem
              have HDN := Lib.hid hdn
              clear hem hdn HRT HC HR HST HBT HB1T
              go_wp2_with (first | (go_at_call 35; refine HM.out.mono ?_; rintro f7 w7 ⟨rfl, rfl⟩) | (go_at_call 15; refine HFA.out.mono ?_; rintro f8 w8 ⟨rfl, hb8⟩; have C8 := Lib.hid (C6.out.below hb8); clear hb8))
              clear HM HFA C6
              go_loopw [12] (fun vk wr => ∃ k : Nat, k ≤ n ∧ vk = .int .i64 (k : Int) ∧ w8 = wr) (fun i _ => 7 - (intOf i).toNat)
              case atStart => exact ⟨0, by omega, rfl, rfl⟩
              case round =>
                obtain ⟨k, hk, rfl, rfl⟩ := hrel
                by_cases hlt : k < n
                · have j1 : (k : Int) < n := by omega
                  obtain ⟨cr, zr⟩ := C8.out.row hlt
                  obtain ⟨sb, cp4, c4, zg, zs, hc4, hsaid⟩ := said3 C8.out hlt (HDN.out k hlt)
                  have HSD := Lib.hid hsaid
                  have HC4 := Lib.hid hc4
                  clear hsaid hc4
                  obtain ⟨gk, hgk⟩ : ∃ gk, gk = g k := ⟨_, rfl⟩
                  rw [← hgk] at cr c4 zg
                  clear hgk
                  go_wp2
                  go_loopw [13] (fun vi wr => ∃ i : Nat, i ≤ 3 ∧ vi = .int .i64 (i : Int) ∧ w8 = wr) (fun i _ => 4 - (intOf i).toNat)
                  case atStart => exact ⟨0, by omega, rfl, rfl⟩
                  case round =>
                    obtain ⟨i, hi, rfl, rfl⟩ := hrel
                    by_cases hi3 : i < 3
                    · have j2 : (i : Int) < 3 := by omega
                      obtain ⟨d0, d1⟩ := HSD.out i hi3
                      have q1 := heldA
                      have q2 := guardA
                      have q3 := neA
                      go_wp2
                      refine ⟨⟨i + 1, by omega, by go_num, by first | rfl | trivial⟩, by simp [intOf]; omega⟩
                    · obtain rfl : i = 3 := by omega
                      have j2 : ¬ ((3 : Nat) : Int) < 3 := by omega
                      go_wp2
                      go_roundw
                      case rel => exact ⟨k + 1, by omega, by go_num, by first | rfl | trivial⟩
                      case measure => simp [intOf]; omega
                · obtain rfl : n = k := by omega
                  have j1 : ¬ ((n : Int) < n) := by omega
                  have HIT := Lib.hid (Items_none C8.out.plot.1 HEM.out.m HEM.out.root)
                  have HBC : Hid (Below w.heap.size w w8) := Lib.hid (B2.out.trans (C8.out.of.1.mono hBo))
                  go_wp2_with fail
                  refine HIT.out.mono ?_
                  rintro f10 w10 ⟨rfl, hb10⟩
                  have HBD := Lib.hid (HBC.out.trans (hb10.mono HBC.out.size))
                  have HIN := Lib.hid (Items_nil (HL.out.keep HBD.out))
                  clear hb10 HIT HBC C8 HEM HDN
                  go_wp2_with fail
                  refine HIN.out.mono ?_
                  rintro f11 w11 ⟨⟨T, y, rfl⟩, hb11⟩
                  have HBE := Lib.hid (HBD.out.trans (hb11.mono HBD.out.size))
                  clear hb11 HIN HBD
                  go_wp2
                  go_ret
                  exact ⟨rfl, HBE.out⟩
end Go.Proofs.YtihjklimcchkhaaGreatDoor
