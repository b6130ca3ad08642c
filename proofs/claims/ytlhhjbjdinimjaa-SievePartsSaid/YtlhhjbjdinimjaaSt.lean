/- The walk of SieveParts. A template (fill.py). -/
import Derived.Test.YtlhhjbjdinimjaaSw
namespace Go.Proofs.Ytlhhjbjdinimjaa
open Go.RowKit Go.Extern.Stop Go.Stop Go.Extern Go.Sort

theorem cnt_filter_no (p : Nt → Bool) (n : Nt) (xs : List Nt) (h : p n = false) : cnt n (xs.filter p) = 0 := by
  unfold cnt
  rw [List.countP_filter, List.countP_eq_zero]
  intro a _
  by_cases e : a = n
  · subst e; simp [h]
  · simp [e]
theorem cnt_filter_yes (p : Nt → Bool) (n : Nt) (xs : List Nt) (h : p n = true) : cnt n (xs.filter p) = cnt n xs := by
  unfold cnt
  rw [List.countP_filter]
  refine List.countP_congr fun a _ => ?_
  by_cases e : a = n
  · subst e; simp [h]
  · simp [e]
theorem cnt_pos (n : Nt) (xs : List Nt) (h : n ∈ xs) : 0 < cnt n xs := List.countP_pos_iff.2 ⟨n, h, by simp⟩
theorem parted_len (p : Nt → Bool) (xs : List Nt) : (xs.filter fun n => !p n).length + (xs.filter p).length = xs.length := by
  induction xs with
  | nil => rfl
  | cons a r ih => cases h : p a <;> simp [h] <;> omega
theorem cell4 {w : World} {g : Nat} {t : TypeId} {v0 v1 v2 v3 : Value} (h : BlkW w g t #[v0, v1, v2, v3]) : w.cell? ⟨g, 0, none⟩ = some v0 ∧ w.cell? ⟨g, 1, none⟩ = some v1 ∧ w.cell? ⟨g, 2, none⟩ = some v2 ∧ w.cell? ⟨g, 3, none⟩ = some v3 :=
  ⟨h.cell 0, h.cell 1, h.cell 2, h.cell 3⟩
def WayRel (w : World) (vi : Value) (wr : World) : Prop := ∃ k : Nat, k ≤ 4 ∧ vi = .int .i64 (k : Int) ∧ Below w.heap.size w wr
set_option maxRecDepth 100000 in
set_option maxHeartbeats 8000000 in
theorem parts_any (v : Value) (xs : List Nt) (k : Kp) (w : World) (hv : RowC nc 7 w v xs) (hk : KpAt w k) : Calls Try.prog 3 #[v, kv k] w (True1 w) := by
  have B0 := Lib.hid (below_alloc (Below.refl w.heap.size w) (.cells #[k.vs, k.ve, k.vp, .int .i64 k.now] 27))
  have HX := Lib.hid (BlkW.new w 27 #[k.vs, k.ve, k.vp, .int .i64 k.now])
  have HV := Lib.hid (hv.keep B0.out)
  have HK := Lib.hid (hk.keep B0.out)
  by_cases hs : xs.length ≤ 60 ∧ k.Small
  · obtain ⟨hx, hs⟩ := hs
    have G := Lib.hid (fun W h1 h2 => great_no v xs k W h1 h2 hx hs)
    have hx' : xs.length ≤ 200 := by omega
    have hs' : k.slots.length ≤ 200 ∧ k.eras.length ≤ 200 ∧ k.spans.length ≤ 200 := by have h1 := hs.1; have h2 := hs.2.1; have h3 := hs.2.2; omega
    unfold kv at G ⊢
    obtain ⟨vs, ve, vp, sl, er, sp, now⟩ := k
    dsimp only at G HX HV HK B0 hs' ⊢
    obtain ⟨ao, cp, rfl⟩ := hv.slice
    clear hv hk hs
    obtain ⟨a1, c1, e1⟩ := HK.out.slots.slice
    obtain ⟨a2, c2, e2⟩ := HK.out.eras.slice
    obtain ⟨a3, c3, e3⟩ := HK.out.spans.slice
    dsimp only at e1 e2 e3
    subst e1 e2 e3
    go_enter Try.func3, Try.ntmps3
    go_wp2_with fail
    refine (awake_true _).mono ?_
    rintro e w1 ⟨rfl, hb⟩
    replace B0 := Lib.hid (below_trans B0.out hb)
    replace HX := Lib.hid (HX.out.below hb)
    replace HV := Lib.hid (HV.out.keep hb)
    replace HK := Lib.hid (HK.out.keep hb)
    obtain ⟨q0, q1, q2, q3⟩ := cell4 HX.out
    clear hb
    go_wp2_with fail
    refine (G.out _ HV.out HK.out).mono ?_
    rintro e w2 ⟨rfl, hb⟩
    replace B0 := Lib.hid (below_trans B0.out hb)
    replace HX := Lib.hid (HX.out.below hb)
    replace HV := Lib.hid (HV.out.keep hb)
    replace HK := Lib.hid (HK.out.keep hb)
    clear hb q0 q1 q2 q3 G
    go_wp2
    go_loopw [5] (fun vi wr => WayRel w2 vi wr) (fun vi _ => 4 - (intOf vi).toNat)
    case atStart => exact ⟨0, by omega, rfl, Below.refl _ _⟩
    case round =>
      obtain ⟨y, hy, rfl, hbel⟩ := hrel
      obtain ⟨wo, rfl⟩ : ∃ wo : World, wo = wr := ⟨_, rfl⟩
      have BO := Lib.hid hbel
      have KX := Lib.hid (HX.out.below hbel)
      have KV := Lib.hid (HV.out.keep hbel)
      have KK := Lib.hid (HK.out.keep hbel)
      clear hbel
      obtain ⟨q0, q1, q2, q3⟩ := cell4 KX.out
      by_cases hend : y = 4
      · subst hend
        go_wp2
        go_ret
        exact ⟨rfl, below_trans B0.out BO.out⟩
      · have hy' : y = 0 ∨ y = 1 ∨ y = 2 ∨ y = 3 := by omega
        clear hend hy
        rcases hy' with rfl | rfl | rfl | rfl
        case' neg.inl =>
          go_wp2_with fail
          refine (Epochs_any _ now xs _ KV.out hx').mono ?_
          rintro e w3 ⟨a', b', rfl, _, _, hb⟩
          replace BO := Lib.hid (below_trans BO.out hb.out)
          replace KX := Lib.hid (KX.out.below hb.out)
          replace KV := Lib.hid (KV.out.keep hb.out)
          replace KK := Lib.hid (KK.out.keep hb.out)
          clear hb q0 q1 q2 q3
          obtain ⟨q0, q1, q2, q3⟩ := cell4 KX.out
          go_wp2_with fail
          refine (Slots_any _ _ xs sl _ KV.out KK.out.slots hx' hs'.1).mono ?_
          rintro e w4 ⟨a, b, rfl, ra, rb, hb⟩
          replace BO := Lib.hid (below_trans BO.out hb.out)
          replace KV := Lib.hid (KV.out.keep hb.out)
          clear hb q0 q1 q2 q3 KX KK
          generalize slotP sl = p at ra rb
        case' neg.inr.inl =>
          go_wp2_with fail
          refine (Epochs_any _ now xs _ KV.out hx').mono ?_
          rintro e w3 ⟨a', b', rfl, _, _, hb⟩
          replace BO := Lib.hid (below_trans BO.out hb.out)
          replace KX := Lib.hid (KX.out.below hb.out)
          replace KV := Lib.hid (KV.out.keep hb.out)
          replace KK := Lib.hid (KK.out.keep hb.out)
          clear hb q0 q1 q2 q3
          obtain ⟨q0, q1, q2, q3⟩ := cell4 KX.out
          go_wp2_with fail
          refine (Eras_any _ _ xs er _ KV.out KK.out.eras hx' hs'.2.1).mono ?_
          rintro e w4 ⟨a, b, rfl, ra, rb, hb⟩
          replace BO := Lib.hid (below_trans BO.out hb.out)
          replace KV := Lib.hid (KV.out.keep hb.out)
          clear hb q0 q1 q2 q3 KX KK
          generalize eraP er = p at ra rb
        case' neg.inr.inr.inl =>
          go_wp2_with fail
          refine (Epochs_any _ now xs _ KV.out hx').mono ?_
          rintro e w3 ⟨a', b', rfl, _, _, hb⟩
          replace BO := Lib.hid (below_trans BO.out hb.out)
          replace KX := Lib.hid (KX.out.below hb.out)
          replace KV := Lib.hid (KV.out.keep hb.out)
          replace KK := Lib.hid (KK.out.keep hb.out)
          clear hb q0 q1 q2 q3
          obtain ⟨q0, q1, q2, q3⟩ := cell4 KX.out
          go_wp2_with fail
          refine (Spans_any _ _ xs sp _ KV.out KK.out.spans hx' hs'.2.2).mono ?_
          rintro e w4 ⟨a, b, rfl, ra, rb, hb⟩
          replace BO := Lib.hid (below_trans BO.out hb.out)
          replace KV := Lib.hid (KV.out.keep hb.out)
          clear hb q0 q1 q2 q3 KX KK
          generalize spanP sp = p at ra rb
        case' neg.inr.inr.inr =>
          go_wp2_with fail
          refine (Epochs_any _ now xs _ KV.out hx').mono ?_
          rintro e w4 ⟨a, b, rfl, ra, rb, hb⟩
          replace BO := Lib.hid (below_trans BO.out hb.out)
          replace KV := Lib.hid (KV.out.keep hb.out)
          clear hb q0 q1 q2 q3 KX KK
          generalize epochK now = p at ra rb
        all_goals
          have HL := Lib.hid (parted_len p xs)
          have RA := Lib.hid ra.out
          have RB := Lib.hid rb.out
          obtain ⟨aa, ac, ea⟩ := RA.out.slice
          obtain ⟨ba, bc, eb⟩ := RB.out.slice
          obtain ⟨la, hla⟩ : ∃ la, la = (xs.filter fun n => !p n).length := ⟨_, rfl⟩
          obtain ⟨lb, hlb⟩ : ∃ lb, lb = (xs.filter p).length := ⟨_, rfl⟩
          rw [← hla] at HL ea
          rw [← hlb] at HL eb
          have hsum : wrap64 ((la : Int) + (lb : Int)) = (xs.length : Int) := by
            have h := HL.out
            rw [IntWalk.wrap64_in _ ⟨by omega, by omega⟩]; omega
          have LA := Lib.hid (show (xs.filter fun n => !p n).length ≤ 200 by have := HL.out; omega)
          have LB := Lib.hid (show (xs.filter p).length ≤ 200 by have := HL.out; omega)
          clear hla hlb HL ra rb
          subst ea eb
          go_wp2
          go_loopw [8] (fun vi wr => WRel xs.length w4 vi wr) (fun vi _ => xs.length - (intOf vi).toNat)
          case atStart => exact ⟨0, Nat.zero_le _, rfl, Below.refl _ _⟩
          case round =>
            obtain ⟨z, hz, rfl, hbel⟩ := hrel
            obtain ⟨wp, rfl⟩ : ∃ wp : World, wp = wr := ⟨_, rfl⟩
            have BP := Lib.hid hbel
            clear hsum
            by_cases hlt : z < xs.length
            · rcases KV.out with ⟨_, e⟩ | ⟨bx, off, cap', e, hbx, hcap, hcell⟩
              · subst e; exact absurd hlt (Nat.not_lt_zero _)
              · injection e with e1 e2 e3
                subst e1
                have hc := rangeAt_block (hcell z hlt) (hbel.block bx hbx)
                have HM := Lib.hid (List.getElem_mem hlt)
                obtain ⟨n, hn⟩ : ∃ n, n = xs[z] := ⟨_, rfl⟩
                rw [← hn] at hc HM
                have CA := Lib.hid (fun d os => count_re (W := wp) _ n _ (RA.out.keep hbel) LA.out d os)
                have CB := Lib.hid (fun d os => count_re (W := wp) _ n _ (RB.out.keep hbel) LB.out d os)
                have CC := Lib.hid (fun d os => count_re (W := wp) _ n _ (KV.out.keep hbel) hx' d os)
                obtain ⟨q0, q1, q2, q3, q4, q5, q6⟩ := re7 hc
                have hpos := cnt_pos n xs HM.out
                have hle := cnt_le n xs
                unfold nv at CA CB CC
                clear hc hcell hn e2 e3 hbel
                have j1 : (z : Int) < xs.length := by omega
                cases hp : p n with
                | true =>
                  rw [cnt_filter_no (fun n => !p n) n xs (by simp [hp])] at CA
                  rw [cnt_filter_yes p n xs hp] at CB
                  obtain ⟨c, hcc⟩ : ∃ c : Int, c = (cnt n xs : Int) := ⟨_, rfl⟩
                  rw [← hcc] at CB CC
                  have i1 : 0 < c := by omega
                  have i2 : c ≤ 60 := by omega
                  have i3 := IntWalk.i64_in c ⟨by omega, by omega⟩
                  have i4 : decide (0 < c) = true := by simp [i1]
                  clear hcc hpos hle hp
                  go_wp2_with fail
                  refine wp_region_quiet_below (by kernel_rfl) (by kernel_rfl) ?_
                  repeat (go_big_quiet_step ((first | with_reducible exact CA.out _ _ | with_reducible exact CB.out _ _ | with_reducible exact CC.out _ _)))
                  refine wpQuiet_nil ?_
                  intro _ hw'
                  obtain ⟨⟨dq, osq⟩, hw''⟩ := hw'
                  subst hw''
                  have HE := Lib.hid (BP.out.trans ((below_regrown wp dq osq).mono BP.out.size))
                  clear q0 q1 q2 q3 q4 q5 q6
                  go_wp2
                  go_roundw
                  case rel => exact ⟨z + 1, by omega, by go_num, HE.out⟩
                  case measure => simp [intOf]; omega
                | false =>
                  rw [cnt_filter_yes (fun n => !p n) n xs (by simp [hp])] at CA
                  rw [cnt_filter_no p n xs hp] at CB
                  obtain ⟨c, hcc⟩ : ∃ c : Int, c = (cnt n xs : Int) := ⟨_, rfl⟩
                  rw [← hcc] at CA CC
                  have i1 : 0 < c := by omega
                  have i2 : c ≤ 60 := by omega
                  have i3 := IntWalk.i64_in c ⟨by omega, by omega⟩
                  have i4 : decide (0 < c) = true := by simp [i1]
                  clear hcc hpos hle hp
                  go_wp2_with fail
                  refine wp_region_quiet_below (by kernel_rfl) (by kernel_rfl) ?_
                  repeat (go_big_quiet_step ((first | with_reducible exact CA.out _ _ | with_reducible exact CB.out _ _ | with_reducible exact CC.out _ _)))
                  refine wpQuiet_nil ?_
                  intro _ hw'
                  obtain ⟨⟨dq, osq⟩, hw''⟩ := hw'
                  subst hw''
                  have HE := Lib.hid (BP.out.trans ((below_regrown wp dq osq).mono BP.out.size))
                  clear q0 q1 q2 q3 q4 q5 q6
                  go_wp2
                  go_roundw
                  case rel => exact ⟨z + 1, by omega, by go_num, HE.out⟩
                  case measure => simp [intOf]; omega
            · obtain rfl : z = xs.length := by omega
              go_wp2
              have HE := Lib.hid (below_trans BO.out BP.out)
              go_roundw
              case rel => first | exact ⟨1, by decide, rfl, HE.out⟩ | exact ⟨2, by decide, rfl, HE.out⟩ | exact ⟨3, by decide, rfl, HE.out⟩ | exact ⟨4, by decide, rfl, HE.out⟩
              case measure => simp [intOf]
  · have G := Lib.hid (fun W h1 h2 => great_yes v xs k W h1 h2 hs)
    unfold kv at G ⊢
    obtain ⟨vs, ve, vp, sl, er, sp, now⟩ := k
    dsimp only at G HX HV HK B0 ⊢
    obtain ⟨ao, cp, rfl⟩ := hv.slice
    clear hv hk hs
    obtain ⟨a1, c1, e1⟩ := HK.out.slots.slice
    obtain ⟨a2, c2, e2⟩ := HK.out.eras.slice
    obtain ⟨a3, c3, e3⟩ := HK.out.spans.slice
    dsimp only at e1 e2 e3
    subst e1 e2 e3
    go_enter Try.func3, Try.ntmps3
    go_wp2_with fail
    refine (awake_true _).mono ?_
    rintro e w1 ⟨rfl, hb⟩
    replace B0 := Lib.hid (below_trans B0.out hb)
    replace HX := Lib.hid (HX.out.below hb)
    replace HV := Lib.hid (HV.out.keep hb)
    replace HK := Lib.hid (HK.out.keep hb)
    obtain ⟨q0, q1, q2, q3⟩ := cell4 HX.out
    clear hb
    go_wp2_with fail
    refine (G.out _ HV.out HK.out).mono ?_
    rintro e w2 ⟨rfl, hb⟩
    replace B0 := Lib.hid (below_trans B0.out hb)
    clear hb q0 q1 q2 q3 G
    go_wp2
    go_ret
    exact ⟨rfl, B0.out⟩
end Go.Proofs.Ytlhhjbjdinimjaa
