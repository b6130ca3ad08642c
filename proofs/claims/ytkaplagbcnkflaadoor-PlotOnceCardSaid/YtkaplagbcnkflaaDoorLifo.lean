/- The walk of PlotRow. A template (fill.py). -/
import Derived.Test.YtkaplagbcnkflaaDoorLifoMod
import Derived.LoopTactic
import Derived.OwnWalk
namespace Go.Proofs.YtkaplagbcnkflaaDoor
open Go.RowKit Go.Extern.Stop Go.Stop Go.Extern Go.Sort
theorem u64_mod (x : Int) (m : Nat) (hm : 0 < m) : ∃ n : Nat, n < m ∧ (IntKind.u64.wrap x).tmod (m : Int) = n := by
  have h0 : 0 ≤ IntKind.u64.wrap x := by rw [IntKind.wrap_u64]; omega
  rw [Int.tmod_eq_emod_of_nonneg h0]
  have h1 := Int.emod_nonneg (IntKind.u64.wrap x) (show (m : Int) ≠ 0 by omega)
  have h2 := Int.emod_lt_of_pos (IntKind.u64.wrap x) (show (0 : Int) < m by omega)
  exact ⟨((IntKind.u64.wrap x) % (m : Int)).toNat, by omega, by omega⟩
theorem below_drewN {B : Nat} {a w : World} (h : Below B a w) (n : Nat) : Below B a (w.drewN n) := ⟨h.os, h.tape, h.output, h.size, h.block⟩
def Lf3Rel (w : World) (E : Flt → Addr) (B p bs bb n J : Nat) (F : List Nat) (vf : Value) (vi : Value) (wr : World) : Prop :=
  ∃ (j : Nat) (t : St), j ≤ F.length ∧ vi = .int .i64 ((j : Int) - 1) ∧ Lf3 t n (F.drop (F.length - j)) (J + (F.length - j)) ∧ PlotX wr E B p bs bb vf t ∧ wr.ownsRow w.heap.size 3 1 vf F.length (frow F) ∧ Below w.heap.size w wr
theorem Lf3.weak {t : St} {n j j' : Nat} {F : List Nat} (h : Lf3 t n F j) (hj : j ≤ j') : Lf3 t n F j' := ⟨h.cnt, h.free, h.gen, Nat.le_trans h.steps hj⟩
theorem own_slice {w : World} {b m : Nat} {T : TypeId} {size : Nat} {u : Value} {xs : List Value} (h : w.ownsRow b T size u m xs) : ∃ ao c, u = .slice ao m c := by
  rcases h.2 with ⟨rfl, e⟩ | ⟨g, cap, cur, rfl, _⟩
  · exact ⟨none, 0, by rw [e]⟩
  · exact ⟨_, _, rfl⟩
theorem neGen (c : Nat) (w : World) : (binOp .neq 35 (.agg #[.int .i64 ((c : Int) + 1), .int .i64 2, .int .i64 0, .int .i64 0, .bool false]) (.agg #[.int .i64 ((c : Int) + 1), .int .i64 2, .int .i64 0, .int .i64 0, .bool false])).run Tryd.prog w = .ok (.bool false) w := by
  rw [ne23]; simp [eqB]
def Lf2Rel (w : World) (E : Flt → Addr) (B p bs bb n len : Nat) (vf vi : Value) (wr : World) : Prop :=
  ∃ (i : Nat) (t : St) (F : List Nat), i ≤ len ∧ i ≤ 100 ∧ vi = .int .i64 (i : Int) ∧ PlotX wr E B p bs bb vf t ∧ Lf2 t n F i ∧ wr.ownsRow w.heap.size 3 1 vf F.length (frow F) ∧ Below w.heap.size w wr
def Lf1Rel (w : World) (E : Flt → Addr) (B p bs bb n : Nat) (vi : Value) (wr : World) : Prop :=
  ∃ (i : Nat) (t : St), i ≤ n ∧ vi = .int .i64 (i : Int) ∧ PlotAt wr E B p bs bb t ∧ Lf1 t n i ∧ Below w.heap.size w wr
theorem neRow (i : Nat) (w : World) : (binOp .neq 35 (.agg #[.int .i64 ((i : Int) + 1), .int .i64 1, .int .i64 0, .int .i64 0, .bool false]) (.agg #[.int .i64 ((i : Int) + 1), .int .i64 1, .int .i64 0, .int .i64 0, .bool false])).run Tryd.prog w = .ok (.bool false) w := by
  rw [ne23]; simp [eqB]
set_option maxRecDepth 100000 in
set_option maxHeartbeats 4000000 in
theorem row_any (E : Flt → Addr) (x : Int) (v : Value) (xs : List Int) (w : World) (L : Env w E) (hv : Row w v xs) :
    Calls Tryd.prog 5 #[.int .i64 x, v] w (True1 w) := by
  have HL := Lib.hid L
  have AW := Lib.hid (awake_true E w L)
  have hB0 := L.size
  have HV := Lib.hid hv
  obtain ⟨ao, cp, rfl⟩ := hv.slice
  obtain ⟨n, hn, hx⟩ := u64_mod x 100 (by omega)
  have hn1 : (n : Int) < 100 := by omega
  have hw : wrap64 ((IntKind.u64.wrap x).tmod 100) = (n : Int) := by
    have e : (IntKind.u64.wrap x).tmod 100 = (n : Int) := hx
    rw [e]
    exact IntWalk.wrap64_in _ ⟨by omega, by omega⟩
  clear hx
  clear L hv
  go_enter Tryd.func5, Tryd.ntmps5
  go_wp2_with fail
  refine AW.out.mono ?_
  rintro e w1 ⟨rfl, hb⟩
  have B1 := Lib.hid hb
  clear hb
  have hB : 6 ≤ w1.heap.size := Nat.le_trans hB0 B1.out.size
  go_wp2_with fail
  refine (new_is (HL.out.keep B1.out) n 0 (by omega) (by omega)).mono ?_
  rintro e w2 ⟨p, bs, bb, rfl, P2, C2, _, _⟩
  have B2 := Lib.hid (show Below w.heap.size w w2 from B1.out.trans (C2.out.mono B1.out.size))
  have O2 := Lib.hid (P2.out.2.1)
  clear C2
  go_wp2
  clear hw
  go_loopw [8] (Lf1Rel w E w1.heap.size p bs bb n) (fun i _ => n - (intOf i).toNat)
  case atStart => exact ⟨0, _, by omega, rfl, P2.out, lf1_new n, B2.out⟩
  case round =>
    obtain ⟨i, t, hi, rfl, hP, hR, hbel⟩ := hrel
    obtain ⟨wo, rfl⟩ : ∃ wo : World, wo = wr := ⟨_, rfl⟩
    have HP := Lib.hid hP
    have HR := Lib.hid hR
    have HB := Lib.hid hbel
    clear hP hR hbel P2 B2 O2
    by_cases hlt : i < n
    · have j1 : (i : Int) < n := by omega
      have nE := neRow i
      go_wp2_with fail
      refine (do_eq HP.out hB (by rw [HR.out.steps]; omega) acNew (can_new _ _ rfl) ((i : Int) + 1) 1 0 0 false true (lf1_step HR.out hlt).1).mono ?_
      rintro e w3 ⟨rfl, P3, C3, _⟩
      have B3 := Lib.hid (show Below w.heap.size w w3 from HB.out.trans (C3.out.mono B1.out.size))
      have R3 := Lib.hid (lf1_step HR.out hlt).2
      clear C3
      go_wp2
      refine ⟨⟨i + 1, _, by omega, by go_num, alloc_keep P3.out _, R3.out, low_alloc B3 (Nat.le_refl _) _⟩, by simp [intOf]; omega⟩
    · obtain rfl : n = i := by omega
      have S2 := Lib.hid (lf2_start HR.out)
      go_upto_region 15 with (fail)
      have S2 := Lib.hid (lf2_start HR.out)
      go_loopw [11, 12] (Lf2Rel w E w1.heap.size p bs bb n xs.length) (fun _ i _ => 101 - (intOf i).toNat)
      case atStart =>
        exact ⟨0, t, [], by omega, by omega, rfl, PlotX.start HP.out (by intro g hg; simp [Value.ownBlock] at hg; omega) (below_alloc (Below.refl _ _) _), S2.out, World.ownsRow_lit wo #[] 0 HB.out.size (by simp [maxLen]) rfl, below_al HB.out (Nat.le_refl _) _⟩
      case round =>
        obtain ⟨i, t, F, hi, hi100, rfl, hP, hR, hown, hbel⟩ := hrel
        obtain ⟨wp, rfl⟩ : ∃ wp : World, wp = wr := ⟨_, rfl⟩
        have HP := Lib.hid hP
        have HR := Lib.hid hR
        have HO := Lib.hid hown
        have HB := Lib.hid hbel
        clear hP hR hown hbel S2
        by_cases hlt : i < xs.length ∧ i < 100 ∧ 0 < n
        · obtain ⟨hlt, hlt100, hn0⟩ := hlt
          rcases HV.out with ⟨_, e⟩ | ⟨bx, off, cap, e, hbx, hcap, hcell⟩
          · subst e; exact absurd hlt (Nat.not_lt_zero _)
          · injection e with e1 e2 e3
            subst e1
            obtain ⟨y, hy⟩ : ∃ y, y = xs[i] := ⟨_, rfl⟩
            have hc := hcell i hlt
            rw [← hy] at hc
            have cx : wp.cell? ⟨bx, off + i, none⟩ = some (.int .i64 y) := by rw [HB.out.cell (p := ⟨bx, off + i, none⟩) hbx]; exact hc
            clear hc hcell hy e2 e3
            obtain ⟨k, hk, hky⟩ := u64_mod y n hn0
            have j1 : (i : Int) < xs.length := by omega
            have j2 : (i : Int) < 100 := by omega
            have j3 : (0 : Int) < n := by omega
            have h1k : (1 : Int) + (k : Int) = (k : Int) + 1 := by omega
            by_cases hkF : k ∈ F
            · have HT := Lib.hid (lf2_twice HR.out HP.out.2.1 hk hkF)
              go_wp2_with fail
              refine (do_x HP.out HO.out hB (by have := HR.out.steps; omega) (acFree k) (lf2_can HR.out hk) 0 0 0 0 false false HT.out.1).mono ?_
              rintro e w3 ⟨rfl, P3, C3, O3⟩
              have B3 := Lib.hid (show Below w.heap.size w w3 from HB.out.trans (C3.out.mono B1.out.size))
              clear C3 hkF
              go_wp2
              refine ⟨⟨i + 1, _, F, by omega, by omega, by go_num, P3.out.keep (below_alloc (Below.refl _ _) _), HT.out.2, O3.out.alloc _, low_alloc B3 (Nat.le_refl _) _⟩, by simp [intOf]; omega⟩
            · have HT := Lib.hid (lf2_free HR.out HP.out.2.1 hk hkF)
              have hFl := lf2_len HR.out
              obtain ⟨i0, hi0, hz0, hz01, hz02⟩ := info_parts info3
              go_wp2_with fail
              refine (do_x HP.out HO.out hB (by have := HR.out.steps; omega) (acFree k) (lf2_can HR.out hk) 0 0 0 0 false true HT.out.1).mono ?_
              rintro e w3 ⟨rfl, P3, C3, O3⟩
              have B3 := Lib.hid (show Below w.heap.size w w3 from HB.out.trans (C3.out.mono B1.out.size))
              have P3 := Lib.hid (P3.out.keep (below_alloc (Below.refl _ _) (.cells #[.int .i64 0, .int .i64 0, .int .i64 0, .int .i64 0, .bool false, .bool true] 39)))
              have O3 := Lib.hid (O3.out.alloc (.cells #[.int .i64 0, .int .i64 0, .int .i64 0, .int .i64 0, .bool false, .bool true] 39))
              have B3 := low_alloc B3 (Nat.le_refl _) (.cells #[.int .i64 0, .int .i64 0, .int .i64 0, .int .i64 0, .bool false, .bool true] 39)
              clear C3 hkF
              go_wp2_with (at_builtin; refine wpList_append_own_at _ rfl _ _ 48 rfl w.heap.size 3 i0 (.int .i64 0) 1 8 Tryd.underlying48 hi0 hz0 hz01 hz02 rfl (by decide) u11 _ _ (by rfl) (O3.out.alloc _) ⟨w3.heap.size + 1, 0, none⟩ 1 1 [.int .i64 ((k : Int) + 1)] (by rfl) rfl ?c1 ?c2 ?c3 ?c4 ?c5 ?_)
              case c1 =>
                have := cell_one_new (w3.alloc (.cells #[.int .i64 0, .int .i64 0, .int .i64 0, .int .i64 0, .bool false, .bool true] 39)) (.int .i64 ((k : Int) + 1)) 3
                rw [World.size_alloc] at this
                exact this
              case c2 => intro u hu; simp at hu; subst hu; rfl
              case c3 => simp [maxLen]; omega
              case c4 => omega
              case c5 => rw [World.size_alloc]; have := B3.out.size; omega
              intro v' w4 hown' hgrow _ hat
              have P4 := PlotX.grown (P3.out.keep (below_alloc (Below.refl _ _) (.cells #[.int .i64 ((k : Int) + 1)] 3))) (O3.out.alloc _) ((P3.out.2.2.keep (below_alloc (Below.refl _ _) (.cells #[.int .i64 ((k : Int) + 1)] 3))).below ((Below.refl w.heap.size _).grown hgrow (by rw [World.size_alloc]; have := B3.out.size; omega) (fun q e => (O3.out.lt q e).1)) hB0) hgrow (by rw [World.size_alloc, World.size_alloc]; exact hat)
              have B4 := (low_alloc B3 (Nat.le_refl _) (.cells #[.int .i64 ((k : Int) + 1)] 3)).out.grown hgrow (by rw [World.size_alloc]; have := B3.out.size; omega) (fun q e => (O3.out.lt q e).1)
              have O4 : w4.ownsRow w.heap.size 3 1 v' (k :: F).length (frow (k :: F)) := by rw [frow_cons]; exact hown'
              have HP4 := Lib.hid P4
              have HB4 := Lib.hid B4
              have HO4 := Lib.hid O4
              clear hown' hgrow hat P4 B4 O4 P3 B3 O3
              go_wp2
              refine ⟨⟨i + 1, _, k :: F, by omega, by omega, by go_num, HP4.out, HT.out.2, HO4.out, HB4.out⟩, by simp [intOf]; omega⟩
        · have hex : (xs.length ≤ i) ∨ (i < xs.length ∧ 100 ≤ i) ∨ (i < xs.length ∧ i < 100 ∧ n = 0) := by omega
          clear hlt
          rcases hex with h1 | ⟨h1, h2⟩ | ⟨h1, h2, h3⟩
          · have j1 : ¬ (i : Int) < xs.length := by omega
            clear h1
            obtain ⟨M, hM⟩ : ∃ M, M = F.length := ⟨_, rfl⟩
            have HM := Lib.hid hM
            have hM2 : M ≤ 100 := by rw [hM]; exact Nat.le_trans (lf2_len HR.out) hi100
            have S3 := Lib.hid (lf3_start HR.out HP.out.2.1)
            have HO2 := Lib.hid (show wp.ownsRow w.heap.size 3 1 u11 M (frow F) by rw [hM]; exact HO.out)
            obtain ⟨ao2, cp2, hu⟩ := own_slice HO2.out
            subst hu
            clear hM HO
            go_upto_region 22 with (fail)
            go_loopw [16] (Lf3Rel w E w1.heap.size p bs bb n (n + i) F (.slice ao2 M cp2)) (fun q _ => (intOf q + 1).toNat)
            case atStart =>
              exact ⟨M, t, Nat.le_of_eq HM.out, rfl, by have e : F.length - M = 0 := by have := HM.out; omega
                                                        rw [e]; exact S3.out.weak (by omega), HP.out, by have := HO2.out; rwa [HM.out] at this ⊢, HB.out⟩
            case round =>
              obtain ⟨j, t3, hj, rfl, hR3, hP3, hown3, hbel3⟩ := hrel
              obtain ⟨wq, rfl⟩ : ∃ wq : World, wq = wr := ⟨_, rfl⟩
              have HP3 := Lib.hid hP3
              have HR3 := Lib.hid hR3
              have HO3 := Lib.hid hown3
              have HB3 := Lib.hid hbel3
              have HJ := Lib.hid hj
              clear hP3 hR3 hown3 hbel3 S3 HP HR HO2 HB
              rcases Nat.eq_zero_or_pos j with h0 | h0
              · subst h0
                have e0 : ((0 : Nat) : Int) - 1 = -1 := by omega
                have HR4 := Lib.hid (show Lf3 t3 n [] _ by have := HR3.out; rwa [show F.length - 0 = F.length from rfl, List.drop_length] at this)
                clear HR3
                have HE := Lib.hid (lf3_end HR4.out)
                go_wp2_with fail
                refine (do_eq HP3.out.at hB (by have := HR4.out.steps; have := HM.out; omega) acNew (can_new _ _ rfl) 0 0 0 0 false false HE.out.1).mono ?_
                rintro e w5 ⟨rfl, P5, C5, _⟩
                have B5 := Lib.hid (show Below w.heap.size w w5 from HB3.out.trans (C5.out.mono B1.out.size))
                have P5 := Lib.hid (alloc_keep P5.out (.cells #[.int .i64 0, .int .i64 0, .int .i64 0, .int .i64 0, .bool false, .bool false] 39))
                have B5 := low_alloc B5 (Nat.le_refl _) (.cells #[.int .i64 0, .int .i64 0, .int .i64 0, .int .i64 0, .bool false, .bool false] 39)
                have HLv := Lib.hid (live_at P5.out)
                rw [HE.out.2.1, HE.out.2.2] at HLv
                simp only [List.length_nil, Int.natCast_zero, Int.sub_zero] at HLv
                clear C5 P5
                go_wp2_with fail
                refine HLv.out.mono ?_
                rintro e w6 ⟨rfl, hb⟩
                have B6 := Lib.hid (show Below w.heap.size w w6 from B5.out.trans (hb.mono B5.out.size))
                clear hb
                go_wp2
                go_ret
                exact ⟨rfl, B6.out⟩
              · obtain ⟨d, rfl⟩ : ∃ d, j = d + 1 := ⟨j - 1, by omega⟩
                clear h0
                have e0 : ((d + 1 : Nat) : Int) - 1 = (d : Int) := by omega
                have hdl : d < M := by have := HM.out; have := HJ.out; omega
                obtain ⟨c, hcF⟩ : ∃ c, F.drop (F.length - (d + 1)) = c :: F.drop (F.length - d) := by
                  have hj := HJ.out
                  refine ⟨F[F.length - (d + 1)]'(by omega), ?_⟩
                  rw [List.drop_eq_getElem_cons (by omega), show F.length - (d + 1) + 1 = F.length - d by omega]
                have HR4 := Lib.hid (show Lf3 t3 n (c :: F.drop (F.length - d)) _ by have := HR3.out; rwa [hcF] at this)
                clear HR3
                have HS := Lib.hid (lf3_step HR4.out HP3.out.2.1)
                obtain ⟨g, cap, e, hg1, hg2⟩ := HO3.out.form (by have := HJ.out; omega)
                injection e with e1 e2 e3
                subst e1
                have hcell : wq.cell? ⟨g, d, none⟩ = some (.int .i64 ((c : Int) + 1)) := by
                  have hj := HJ.out
                  have hh := HO3.out
                  rw [e3] at hh
                  rw [e2] at hh
                  rw [hh.cellAt d (by omega)]
                  have : F.reverse[d]? = some c := by
                    rw [List.getElem?_reverse (by omega)]
                    have h2 : (F.drop (F.length - (d + 1)))[0]? = some c := by rw [hcF]; rfl
                    rw [List.getElem?_drop] at h2
                    rw [show F.length - 1 - d = F.length - (d + 1) + 0 by omega]
                    exact h2
                  unfold frow
                  rw [List.getElem?_map, this]
                  rfl
                clear hcF
                have HC := Lib.hid hcell
                have E2 := Lib.hid e2
                have E3 := Lib.hid e3
                clear hcell e2 e3
                have j4 : (d : Int) < M := by omega
                have nE := neGen c
                go_wp2_with fail
                refine (do_x HP3.out HO3.out hB (by have := HR4.out.steps; have := HM.out; omega) acNew (can_new _ _ rfl) ((c : Int) + 1) 2 0 0 false true HS.out.1).mono ?_
                rintro e w5 ⟨rfl, P5, C5, O5⟩
                have B5 := Lib.hid (show Below w.heap.size w w5 from HB3.out.trans (C5.out.mono B1.out.size))
                have P5 := Lib.hid (P5.out.keep (below_alloc (Below.refl _ _) (.cells #[.int .i64 ((c : Int) + 1), .int .i64 2, .int .i64 0, .int .i64 0, .bool false, .bool true] 39)))
                have hcq : w5.cell? ⟨g, d, none⟩ = some (.int .i64 ((c : Int) + 1)) := by
                  have h1 := HC.out
                  have hh := HO3.out
                  have h5 := O5.out
                  rw [E3.out] at hh h5
                  rw [E2.out] at hh h5
                  rw [hh.cellAt d (by omega)] at h1
                  rw [h5.cellAt d (by omega)]
                  exact h1
                have O5 := Lib.hid (O5.out.alloc (.cells #[.int .i64 ((c : Int) + 1), .int .i64 2, .int .i64 0, .int .i64 0, .bool false, .bool true] 39))
                have B5 := low_alloc B5 (Nat.le_refl _) (.cells #[.int .i64 ((c : Int) + 1), .int .i64 2, .int .i64 0, .int .i64 0, .bool false, .bool true] 39)
                have hgl : g < w5.heap.size := lt_of_cell hcq
                clear C5 HC
                
                go_upto_region 25 with (fail)
                go_quiet (fail)
                go_wp2
                have hdr : ∀ X : World, Below X.heap.size X (X.drewN nq) := fun X => ⟨rfl, rfl, rfl, Nat.le_refl _, fun _ _ => rfl⟩
                refine ⟨⟨d, _, by have := HJ.out; omega, rfl, HS.out.2.weak (by have := HJ.out; omega), P5.out.keep (hdr _), own_block O5.out (fun _ _ => rfl), below_drewN B5.out nq⟩, by simp [intOf]⟩
          · have j1 : (i : Int) < xs.length := by omega
            have j2 : ¬ (i : Int) < 100 := by omega
            clear h1 h2
            obtain ⟨M, hM⟩ : ∃ M, M = F.length := ⟨_, rfl⟩
            have HM := Lib.hid hM
            have hM2 : M ≤ 100 := by rw [hM]; exact Nat.le_trans (lf2_len HR.out) hi100
            have S3 := Lib.hid (lf3_start HR.out HP.out.2.1)
            have HO2 := Lib.hid (show wp.ownsRow w.heap.size 3 1 u11 M (frow F) by rw [hM]; exact HO.out)
            obtain ⟨ao2, cp2, hu⟩ := own_slice HO2.out
            subst hu
            clear hM HO
            go_upto_region 22 with (fail)
            go_loopw [16] (Lf3Rel w E w1.heap.size p bs bb n (n + i) F (.slice ao2 M cp2)) (fun q _ => (intOf q + 1).toNat)
            case atStart =>
              exact ⟨M, t, Nat.le_of_eq HM.out, rfl, by have e : F.length - M = 0 := by have := HM.out; omega
                                                        rw [e]; exact S3.out.weak (by omega), HP.out, by have := HO2.out; rwa [HM.out] at this ⊢, HB.out⟩
            case round =>
              obtain ⟨j, t3, hj, rfl, hR3, hP3, hown3, hbel3⟩ := hrel
              obtain ⟨wq, rfl⟩ : ∃ wq : World, wq = wr := ⟨_, rfl⟩
              have HP3 := Lib.hid hP3
              have HR3 := Lib.hid hR3
              have HO3 := Lib.hid hown3
              have HB3 := Lib.hid hbel3
              have HJ := Lib.hid hj
              clear hP3 hR3 hown3 hbel3 S3 HP HR HO2 HB
              rcases Nat.eq_zero_or_pos j with h0 | h0
              · subst h0
                have e0 : ((0 : Nat) : Int) - 1 = -1 := by omega
                have HR4 := Lib.hid (show Lf3 t3 n [] _ by have := HR3.out; rwa [show F.length - 0 = F.length from rfl, List.drop_length] at this)
                clear HR3
                have HE := Lib.hid (lf3_end HR4.out)
                go_wp2_with fail
                refine (do_eq HP3.out.at hB (by have := HR4.out.steps; have := HM.out; omega) acNew (can_new _ _ rfl) 0 0 0 0 false false HE.out.1).mono ?_
                rintro e w5 ⟨rfl, P5, C5, _⟩
                have B5 := Lib.hid (show Below w.heap.size w w5 from HB3.out.trans (C5.out.mono B1.out.size))
                have P5 := Lib.hid (alloc_keep P5.out (.cells #[.int .i64 0, .int .i64 0, .int .i64 0, .int .i64 0, .bool false, .bool false] 39))
                have B5 := low_alloc B5 (Nat.le_refl _) (.cells #[.int .i64 0, .int .i64 0, .int .i64 0, .int .i64 0, .bool false, .bool false] 39)
                have HLv := Lib.hid (live_at P5.out)
                rw [HE.out.2.1, HE.out.2.2] at HLv
                simp only [List.length_nil, Int.natCast_zero, Int.sub_zero] at HLv
                clear C5 P5
                go_wp2_with fail
                refine HLv.out.mono ?_
                rintro e w6 ⟨rfl, hb⟩
                have B6 := Lib.hid (show Below w.heap.size w w6 from B5.out.trans (hb.mono B5.out.size))
                clear hb
                go_wp2
                go_ret
                exact ⟨rfl, B6.out⟩
              · obtain ⟨d, rfl⟩ : ∃ d, j = d + 1 := ⟨j - 1, by omega⟩
                clear h0
                have e0 : ((d + 1 : Nat) : Int) - 1 = (d : Int) := by omega
                have hdl : d < M := by have := HM.out; have := HJ.out; omega
                obtain ⟨c, hcF⟩ : ∃ c, F.drop (F.length - (d + 1)) = c :: F.drop (F.length - d) := by
                  have hj := HJ.out
                  refine ⟨F[F.length - (d + 1)]'(by omega), ?_⟩
                  rw [List.drop_eq_getElem_cons (by omega), show F.length - (d + 1) + 1 = F.length - d by omega]
                have HR4 := Lib.hid (show Lf3 t3 n (c :: F.drop (F.length - d)) _ by have := HR3.out; rwa [hcF] at this)
                clear HR3
                have HS := Lib.hid (lf3_step HR4.out HP3.out.2.1)
                obtain ⟨g, cap, e, hg1, hg2⟩ := HO3.out.form (by have := HJ.out; omega)
                injection e with e1 e2 e3
                subst e1
                have hcell : wq.cell? ⟨g, d, none⟩ = some (.int .i64 ((c : Int) + 1)) := by
                  have hj := HJ.out
                  have hh := HO3.out
                  rw [e3] at hh
                  rw [e2] at hh
                  rw [hh.cellAt d (by omega)]
                  have : F.reverse[d]? = some c := by
                    rw [List.getElem?_reverse (by omega)]
                    have h2 : (F.drop (F.length - (d + 1)))[0]? = some c := by rw [hcF]; rfl
                    rw [List.getElem?_drop] at h2
                    rw [show F.length - 1 - d = F.length - (d + 1) + 0 by omega]
                    exact h2
                  unfold frow
                  rw [List.getElem?_map, this]
                  rfl
                clear hcF
                have HC := Lib.hid hcell
                have E2 := Lib.hid e2
                have E3 := Lib.hid e3
                clear hcell e2 e3
                have j4 : (d : Int) < M := by omega
                have nE := neGen c
                go_wp2_with fail
                refine (do_x HP3.out HO3.out hB (by have := HR4.out.steps; have := HM.out; omega) acNew (can_new _ _ rfl) ((c : Int) + 1) 2 0 0 false true HS.out.1).mono ?_
                rintro e w5 ⟨rfl, P5, C5, O5⟩
                have B5 := Lib.hid (show Below w.heap.size w w5 from HB3.out.trans (C5.out.mono B1.out.size))
                have P5 := Lib.hid (P5.out.keep (below_alloc (Below.refl _ _) (.cells #[.int .i64 ((c : Int) + 1), .int .i64 2, .int .i64 0, .int .i64 0, .bool false, .bool true] 39)))
                have hcq : w5.cell? ⟨g, d, none⟩ = some (.int .i64 ((c : Int) + 1)) := by
                  have h1 := HC.out
                  have hh := HO3.out
                  have h5 := O5.out
                  rw [E3.out] at hh h5
                  rw [E2.out] at hh h5
                  rw [hh.cellAt d (by omega)] at h1
                  rw [h5.cellAt d (by omega)]
                  exact h1
                have O5 := Lib.hid (O5.out.alloc (.cells #[.int .i64 ((c : Int) + 1), .int .i64 2, .int .i64 0, .int .i64 0, .bool false, .bool true] 39))
                have B5 := low_alloc B5 (Nat.le_refl _) (.cells #[.int .i64 ((c : Int) + 1), .int .i64 2, .int .i64 0, .int .i64 0, .bool false, .bool true] 39)
                have hgl : g < w5.heap.size := lt_of_cell hcq
                clear C5 HC
                
                go_upto_region 25 with (fail)
                go_quiet (fail)
                go_wp2
                have hdr : ∀ X : World, Below X.heap.size X (X.drewN nq) := fun X => ⟨rfl, rfl, rfl, Nat.le_refl _, fun _ _ => rfl⟩
                refine ⟨⟨d, _, by have := HJ.out; omega, rfl, HS.out.2.weak (by have := HJ.out; omega), P5.out.keep (hdr _), own_block O5.out (fun _ _ => rfl), below_drewN B5.out nq⟩, by simp [intOf]⟩
          · have j1 : (i : Int) < xs.length := by omega
            have j2 : (i : Int) < 100 := by omega
            have j3 : ¬ (0 : Int) < n := by omega
            clear h1 h2 h3
            obtain ⟨M, hM⟩ : ∃ M, M = F.length := ⟨_, rfl⟩
            have HM := Lib.hid hM
            have hM2 : M ≤ 100 := by rw [hM]; exact Nat.le_trans (lf2_len HR.out) hi100
            have S3 := Lib.hid (lf3_start HR.out HP.out.2.1)
            have HO2 := Lib.hid (show wp.ownsRow w.heap.size 3 1 u11 M (frow F) by rw [hM]; exact HO.out)
            obtain ⟨ao2, cp2, hu⟩ := own_slice HO2.out
            subst hu
            clear hM HO
            go_upto_region 22 with (fail)
            go_loopw [16] (Lf3Rel w E w1.heap.size p bs bb n (n + i) F (.slice ao2 M cp2)) (fun q _ => (intOf q + 1).toNat)
            case atStart =>
              exact ⟨M, t, Nat.le_of_eq HM.out, rfl, by have e : F.length - M = 0 := by have := HM.out; omega
                                                        rw [e]; exact S3.out.weak (by omega), HP.out, by have := HO2.out; rwa [HM.out] at this ⊢, HB.out⟩
            case round =>
              obtain ⟨j, t3, hj, rfl, hR3, hP3, hown3, hbel3⟩ := hrel
              obtain ⟨wq, rfl⟩ : ∃ wq : World, wq = wr := ⟨_, rfl⟩
              have HP3 := Lib.hid hP3
              have HR3 := Lib.hid hR3
              have HO3 := Lib.hid hown3
              have HB3 := Lib.hid hbel3
              have HJ := Lib.hid hj
              clear hP3 hR3 hown3 hbel3 S3 HP HR HO2 HB
              rcases Nat.eq_zero_or_pos j with h0 | h0
              · subst h0
                have e0 : ((0 : Nat) : Int) - 1 = -1 := by omega
                have HR4 := Lib.hid (show Lf3 t3 n [] _ by have := HR3.out; rwa [show F.length - 0 = F.length from rfl, List.drop_length] at this)
                clear HR3
                have HE := Lib.hid (lf3_end HR4.out)
                go_wp2_with fail
                refine (do_eq HP3.out.at hB (by have := HR4.out.steps; have := HM.out; omega) acNew (can_new _ _ rfl) 0 0 0 0 false false HE.out.1).mono ?_
                rintro e w5 ⟨rfl, P5, C5, _⟩
                have B5 := Lib.hid (show Below w.heap.size w w5 from HB3.out.trans (C5.out.mono B1.out.size))
                have P5 := Lib.hid (alloc_keep P5.out (.cells #[.int .i64 0, .int .i64 0, .int .i64 0, .int .i64 0, .bool false, .bool false] 39))
                have B5 := low_alloc B5 (Nat.le_refl _) (.cells #[.int .i64 0, .int .i64 0, .int .i64 0, .int .i64 0, .bool false, .bool false] 39)
                have HLv := Lib.hid (live_at P5.out)
                rw [HE.out.2.1, HE.out.2.2] at HLv
                simp only [List.length_nil, Int.natCast_zero, Int.sub_zero] at HLv
                clear C5 P5
                go_wp2_with fail
                refine HLv.out.mono ?_
                rintro e w6 ⟨rfl, hb⟩
                have B6 := Lib.hid (show Below w.heap.size w w6 from B5.out.trans (hb.mono B5.out.size))
                clear hb
                go_wp2
                go_ret
                exact ⟨rfl, B6.out⟩
              · obtain ⟨d, rfl⟩ : ∃ d, j = d + 1 := ⟨j - 1, by omega⟩
                clear h0
                have e0 : ((d + 1 : Nat) : Int) - 1 = (d : Int) := by omega
                have hdl : d < M := by have := HM.out; have := HJ.out; omega
                obtain ⟨c, hcF⟩ : ∃ c, F.drop (F.length - (d + 1)) = c :: F.drop (F.length - d) := by
                  have hj := HJ.out
                  refine ⟨F[F.length - (d + 1)]'(by omega), ?_⟩
                  rw [List.drop_eq_getElem_cons (by omega), show F.length - (d + 1) + 1 = F.length - d by omega]
                have HR4 := Lib.hid (show Lf3 t3 n (c :: F.drop (F.length - d)) _ by have := HR3.out; rwa [hcF] at this)
                clear HR3
                have HS := Lib.hid (lf3_step HR4.out HP3.out.2.1)
                obtain ⟨g, cap, e, hg1, hg2⟩ := HO3.out.form (by have := HJ.out; omega)
                injection e with e1 e2 e3
                subst e1
                have hcell : wq.cell? ⟨g, d, none⟩ = some (.int .i64 ((c : Int) + 1)) := by
                  have hj := HJ.out
                  have hh := HO3.out
                  rw [e3] at hh
                  rw [e2] at hh
                  rw [hh.cellAt d (by omega)]
                  have : F.reverse[d]? = some c := by
                    rw [List.getElem?_reverse (by omega)]
                    have h2 : (F.drop (F.length - (d + 1)))[0]? = some c := by rw [hcF]; rfl
                    rw [List.getElem?_drop] at h2
                    rw [show F.length - 1 - d = F.length - (d + 1) + 0 by omega]
                    exact h2
                  unfold frow
                  rw [List.getElem?_map, this]
                  rfl
                clear hcF
                have HC := Lib.hid hcell
                have E2 := Lib.hid e2
                have E3 := Lib.hid e3
                clear hcell e2 e3
                have j4 : (d : Int) < M := by omega
                have nE := neGen c
                go_wp2_with fail
                refine (do_x HP3.out HO3.out hB (by have := HR4.out.steps; have := HM.out; omega) acNew (can_new _ _ rfl) ((c : Int) + 1) 2 0 0 false true HS.out.1).mono ?_
                rintro e w5 ⟨rfl, P5, C5, O5⟩
                have B5 := Lib.hid (show Below w.heap.size w w5 from HB3.out.trans (C5.out.mono B1.out.size))
                have P5 := Lib.hid (P5.out.keep (below_alloc (Below.refl _ _) (.cells #[.int .i64 ((c : Int) + 1), .int .i64 2, .int .i64 0, .int .i64 0, .bool false, .bool true] 39)))
                have hcq : w5.cell? ⟨g, d, none⟩ = some (.int .i64 ((c : Int) + 1)) := by
                  have h1 := HC.out
                  have hh := HO3.out
                  have h5 := O5.out
                  rw [E3.out] at hh h5
                  rw [E2.out] at hh h5
                  rw [hh.cellAt d (by omega)] at h1
                  rw [h5.cellAt d (by omega)]
                  exact h1
                have O5 := Lib.hid (O5.out.alloc (.cells #[.int .i64 ((c : Int) + 1), .int .i64 2, .int .i64 0, .int .i64 0, .bool false, .bool true] 39))
                have B5 := low_alloc B5 (Nat.le_refl _) (.cells #[.int .i64 ((c : Int) + 1), .int .i64 2, .int .i64 0, .int .i64 0, .bool false, .bool true] 39)
                have hgl : g < w5.heap.size := lt_of_cell hcq
                clear C5 HC
                
                go_upto_region 25 with (fail)
                go_quiet (fail)
                go_wp2
                have hdr : ∀ X : World, Below X.heap.size X (X.drewN nq) := fun X => ⟨rfl, rfl, rfl, Nat.le_refl _, fun _ _ => rfl⟩
                refine ⟨⟨d, _, by have := HJ.out; omega, rfl, HS.out.2.weak (by have := HJ.out; omega), P5.out.keep (hdr _), own_block O5.out (fun _ _ => rfl), below_drewN B5.out nq⟩, by simp [intOf]⟩
end Go.Proofs.YtkaplagbcnkflaaDoor
