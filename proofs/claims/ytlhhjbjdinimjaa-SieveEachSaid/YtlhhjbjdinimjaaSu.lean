/- The walk of SieveEach. A template (fill.py). -/
import Derived.Test.YtlhhjbjdinimjaaSx
namespace Go.Proofs.Ytlhhjbjdinimjaa
open Go.RowKit Go.Extern.Stop Go.Stop Go.Extern Go.Sort

theorem row_two {w : World} {b : Nat} {T : TypeId} {u : Value} {xs ys : List Nt} (h : w.ownsRow b T 7 u (xs.length + ys.length) (flat nc xs ++ flat nc ys)) : RowC nc 7 w u (xs ++ ys) := by
  refine own_row nc_len (b := b) (T := T) ?_
  rw [flat_app, List.length_append]
  exact h
set_option maxRecDepth 100000 in
set_option maxHeartbeats 8000000 in
theorem each_any (v u : Value) (xs ys : List Nt) (k : Kp) (w : World) (hv : RowC nc 7 w v xs) (hu : RowC nc 7 w u ys) (hk : KpAt w k) : Calls Try.prog 6 #[v, u, kv k] w (True1 w) := by
  obtain ⟨i2, hi2, hz2, hs2, hy2⟩ := info_parts infoNote
  have B0 := Lib.hid (below_alloc (Below.refl w.heap.size w) (.cells #[k.vs, k.ve, k.vp, .int .i64 k.now] 27))
  have HX := Lib.hid (BlkW.new w 27 #[k.vs, k.ve, k.vp, .int .i64 k.now])
  have HV := Lib.hid (hv.keep B0.out)
  have HU := Lib.hid (hu.keep B0.out)
  have HK := Lib.hid (hk.keep B0.out)
  by_cases hs : xs.length ≤ 30 ∧ ys.length ≤ 30 ∧ k.Small
  · obtain ⟨hx, hy, hs⟩ := hs
    have G := Lib.hid (fun W h2 => great_no (.slice none 0 0) [] k W (.inl ⟨⟨none, 0, rfl⟩, rfl⟩) h2 (Nat.zero_le _) hs)
    have HS := Lib.hid hs
    have FR := Lib.hid (fun (y : Nat) (hy : y < 4) (v : Value) (zs : List Nt) W h1 h2 (hz : zs.length ≤ 200) => freed_any y hy v zs k W h1 h2 hz hs)
    generalize wayP k = P at FR
    unfold kv at G FR ⊢
    obtain ⟨vs, ve, vp, sl, er, sp, now⟩ := k
    dsimp only at G FR HX HV HU HK B0 ⊢
    obtain ⟨ao, cp, rfl⟩ := hv.slice
    obtain ⟨ao', cp', rfl⟩ := hu.slice
    clear hv hu hk hs
    obtain ⟨a1, c1, e1⟩ := HK.out.slots.slice
    obtain ⟨a2, c2, e2⟩ := HK.out.eras.slice
    obtain ⟨a3, c3, e3⟩ := HK.out.spans.slice
    dsimp only at e1 e2 e3
    subst e1 e2 e3
    have d1 : decide ((30 : Int) < xs.length) = false := by simp; omega
    have d2 : decide ((30 : Int) < ys.length) = false := by simp; omega
    go_enter Try.func6, Try.ntmps6
    go_wp2_with fail
    refine (awake_true _).mono ?_
    rintro e w1 ⟨rfl, hb⟩
    replace B0 := Lib.hid (below_trans B0.out hb)
    replace HX := Lib.hid (HX.out.below hb)
    replace HV := Lib.hid (HV.out.keep hb)
    replace HU := Lib.hid (HU.out.keep hb)
    replace HK := Lib.hid (HK.out.keep hb)
    obtain ⟨q0, q1, q2, q3⟩ := cell4 HX.out
    clear hb
    go_wp2_with fail
    refine (G.out _ HK.out).mono ?_
    rintro e w2 ⟨rfl, hb⟩
    replace B0 := Lib.hid (below_trans B0.out hb)
    replace HX := Lib.hid (HX.out.below hb)
    replace HV := Lib.hid (HV.out.keep hb)
    replace HU := Lib.hid (HU.out.keep hb)
    replace HK := Lib.hid (HK.out.keep hb)
    clear hb q0 q1 q2 q3 G d1 d2
    have BE := Lib.hid (below_alloc (Below.refl w2.heap.size w2) (.cells #[] 39))
    have OE := Lib.hid (own_empty w2 39 7 w2.heap.size (Nat.le_refl _))
    go_wp2_with (at_builtin; refine wpList_append_row _ nc_len (by decide) nc_one rfl _ _ 22 rfl w2.heap.size 39 i2 _ 56 Try.underlying22 hi2 hz2 hs2 hy2 rfl _ 0 [] (by rfl) OE.out _ xs (by rfl) (HV.out.keep BE.out) ?c1 ?c2 ?c3 ?_)
    case c1 => simp only [maxLen]; omega
    case c2 => omega
    case c3 => exact BE.out.size
    rintro v3 w3 ⟨ho3, hg3, ha3⟩
    have B3 := Lib.hid (below_grown BE.out hg3 BE.out.size OE.out)
    have O3 := Lib.hid ho3
    clear ho3 hg3 ha3 BE OE
    go_wp2_with (at_builtin; refine wpList_append_row _ nc_len (by decide) nc_one rfl _ _ 22 rfl w2.heap.size 39 i2 _ 56 Try.underlying22 hi2 hz2 hs2 hy2 rfl _ _ _ (by rfl) O3.out _ ys (by rfl) (HU.out.keep B3.out) ?c4 ?c5 ?c6 ?_)
    case c4 => simp only [maxLen]; omega
    case c5 => omega
    case c6 => exact B3.out.size
    rintro v4 w4 ⟨ho4, hg4, ha4⟩
    have B4 := Lib.hid (below_grown B3.out hg4 B3.out.size O3.out)
    have RL := Lib.hid (row_two ho4)
    clear ho4 hg4 ha4 O3 B3
    replace B0 := Lib.hid (below_trans B0.out B4.out)
    replace HX := Lib.hid (HX.out.below B4.out)
    replace HV := Lib.hid (HV.out.keep B4.out)
    replace HU := Lib.hid (HU.out.keep B4.out)
    replace HK := Lib.hid (HK.out.keep B4.out)
    obtain ⟨L, hL⟩ : ∃ L, L = xs ++ ys := ⟨_, rfl⟩
    have hLl : L.length ≤ 60 := by rw [hL, List.length_append]; omega
    have HL := Lib.hid hL
    rw [← hL] at RL
    clear hL B4
    obtain ⟨ao2, cp2, rfl⟩ := RL.out.slice
    go_wp2
    go_loopw [8] (fun vi wr => WayRel w4 vi wr) (fun vi _ => 4 - (intOf vi).toNat)
    case atStart => exact ⟨0, by omega, rfl, Below.refl _ _⟩
    case round =>
      obtain ⟨y, hyl, rfl, hbel⟩ := hrel
      obtain ⟨wo, rfl⟩ : ∃ wo : World, wo = wr := ⟨_, rfl⟩
      have BO := Lib.hid hbel
      have KX := Lib.hid (HX.out.below hbel)
      have KV := Lib.hid (HV.out.keep hbel)
      have KU := Lib.hid (HU.out.keep hbel)
      have KL := Lib.hid (RL.out.keep hbel)
      have KK := Lib.hid (HK.out.keep hbel)
      clear hbel
      obtain ⟨q0, q1, q2, q3⟩ := cell4 KX.out
      by_cases hend : y = 4
      · subst hend
        go_wp2
        go_ret
        exact ⟨rfl, below_trans B0.out BO.out⟩
      · have hy4 : y < 4 := by omega
        have j1 : (y : Int) < 4 := by omega
        clear hend hyl
        go_wp2_with fail
        refine (FR.out y hy4 _ xs _ KV.out KK.out (by omega)).mono ?_
        rintro e w5 ⟨a, a', rfl, ra, _, hb⟩
        replace BO := Lib.hid (below_trans BO.out hb.out)
        replace KX := Lib.hid (KX.out.below hb.out)
        replace KU := Lib.hid (KU.out.keep hb.out)
        replace KL := Lib.hid (KL.out.keep hb.out)
        replace KK := Lib.hid (KK.out.keep hb.out)
        clear hb q0 q1 q2 q3 KV
        obtain ⟨q0, q1, q2, q3⟩ := cell4 KX.out
        go_wp2_with fail
        refine (FR.out y hy4 _ ys _ KU.out KK.out (by omega)).mono ?_
        rintro e w6 ⟨b, b', rfl, rb, _, hb⟩
        replace BO := Lib.hid (below_trans BO.out hb.out)
        replace KX := Lib.hid (KX.out.below hb.out)
        replace KL := Lib.hid (KL.out.keep hb.out)
        replace KK := Lib.hid (KK.out.keep hb.out)
        have RA := Lib.hid (ra.out.keep hb.out)
        clear hb q0 q1 q2 q3 KU ra
        obtain ⟨q0, q1, q2, q3⟩ := cell4 KX.out
        go_wp2_with fail
        refine (FR.out y hy4 _ L _ KL.out KK.out (by omega)).mono ?_
        rintro e w7 ⟨z, z', rfl, rz, rz', hb⟩
        replace BO := Lib.hid (below_trans BO.out hb.out)
        replace RA := Lib.hid (RA.out.keep hb.out)
        have RB := Lib.hid (rb.out.keep hb.out)
        clear hb q0 q1 q2 q3 rb KX KK KL
        have ZL := Lib.hid (parted_len (P y) L)
        have ZF := Lib.hid (show (xs.filter fun n => !P y n) ++ (ys.filter fun n => !P y n) = L.filter fun n => !P y n by rw [HL.out, List.filter_append])
        have lx := List.length_filter_le (fun n => !P y n) xs
        have ly := List.length_filter_le (fun n => !P y n) ys
        have BE := Lib.hid (below_alloc (Below.refl w7.heap.size w7) (.cells #[] 39))
        have OE := Lib.hid (own_empty w7 39 7 w7.heap.size (Nat.le_refl _))
        obtain ⟨az, cz, ez⟩ := rz.out.slice
        obtain ⟨az', cz', ez'⟩ := rz'.out.slice
        obtain ⟨la, hla⟩ : ∃ la, la = (L.filter fun n => !P y n).length := ⟨_, rfl⟩
        obtain ⟨lb, hlb⟩ : ∃ lb, lb = (L.filter (P y)).length := ⟨_, rfl⟩
        have LZ := Lib.hid (show (L.filter fun n => !P y n).length ≤ 200 by have := ZL.out; omega)
        have HLA := Lib.hid hla
        rw [← hla] at ZL ez
        rw [← hlb] at ZL ez'
        have RZ := Lib.hid rz.out
        clear rz rz' hla hlb
        have hsum : wrap64 ((la : Int) + (lb : Int)) = (L.length : Int) := by
          have h := ZL.out
          rw [IntWalk.wrap64_in _ ⟨by omega, by omega⟩]; omega
        have HSUM := Lib.hid hsum
        clear hsum
        subst ez ez'
        go_wp2_with (at_builtin; refine wpList_append_row _ nc_len (by decide) nc_one rfl _ _ 22 rfl w7.heap.size 39 i2 _ 56 Try.underlying22 hi2 hz2 hs2 hy2 rfl _ 0 [] (by rfl) OE.out _ (xs.filter fun n => !P y n) (by rfl) (RA.out.keep BE.out) ?c7 ?c8 ?c9 ?_)
        case c7 => simp only [maxLen]; omega
        case c8 => omega
        case c9 => exact BE.out.size
        rintro v8 w8 ⟨ho3, hg3, ha3⟩
        have B3 := Lib.hid (below_grown BE.out hg3 BE.out.size OE.out)
        have O3 := Lib.hid ho3
        clear ho3 hg3 ha3 BE OE
        go_wp2_with (at_builtin; refine wpList_append_row _ nc_len (by decide) nc_one rfl _ _ 22 rfl w7.heap.size 39 i2 _ 56 Try.underlying22 hi2 hz2 hs2 hy2 rfl _ _ _ (by rfl) O3.out _ (ys.filter fun n => !P y n) (by rfl) (RB.out.keep B3.out) ?c10 ?c11 ?c12 ?_)
        case c10 => simp only [maxLen]; omega
        case c11 => omega
        case c12 => exact B3.out.size
        rintro v9 w9 ⟨ho4, hg4, ha4⟩
        have B5 := Lib.hid (below_grown B3.out hg4 B3.out.size O3.out)
        have RX := row_two ho4
        rw [ZF.out] at RX
        have HR := Lib.hid RX
        clear ho4 hg4 ha4 O3 B3 RX lx ly
        replace BO := Lib.hid (below_trans BO.out B5.out)
        obtain ⟨a9, c9, e9⟩ := HR.out.slice
        rw [← HLA.out] at e9
        subst e9
        go_wp2_with fail
        refine (Same_any _ _ _ _ HR.out (RZ.out.keep B5.out) LZ.out).mono ?_
        rintro e w10 ⟨rfl, hb⟩
        replace BO := Lib.hid (below_trans BO.out hb)
        have hsum := HSUM.out
        clear hb
        go_wp2
        go_roundw
        case rel => exact ⟨y + 1, by omega, by go_num, BO.out⟩
        case measure => simp [intOf]; omega
  · by_cases hx : xs.length ≤ 30
    · by_cases hy : ys.length ≤ 30
      · have G := Lib.hid (fun W h2 => great_yes (.slice none 0 0) [] k W (.inl ⟨⟨none, 0, rfl⟩, rfl⟩) h2 (fun h => hs ⟨hx, hy, h.2⟩))
        unfold kv at G ⊢
        obtain ⟨vs, ve, vp, sl, er, sp, now⟩ := k
        dsimp only at G HX HV HU HK B0 ⊢
        obtain ⟨ao, cp, rfl⟩ := hv.slice
        obtain ⟨ao', cp', rfl⟩ := hu.slice
        clear hv hu hk hs
        obtain ⟨a1, c1, e1⟩ := HK.out.slots.slice
        obtain ⟨a2, c2, e2⟩ := HK.out.eras.slice
        obtain ⟨a3, c3, e3⟩ := HK.out.spans.slice
        dsimp only at e1 e2 e3
        subst e1 e2 e3
        have d1 : decide ((30 : Int) < xs.length) = false := by simp; omega
        have d2 : decide ((30 : Int) < ys.length) = false := by simp; omega
        go_enter Try.func6, Try.ntmps6
        go_wp2_with fail
        refine (awake_true _).mono ?_
        rintro e w1 ⟨rfl, hb⟩
        replace B0 := Lib.hid (below_trans B0.out hb)
        replace HX := Lib.hid (HX.out.below hb)
        replace HK := Lib.hid (HK.out.keep hb)
        obtain ⟨q0, q1, q2, q3⟩ := cell4 HX.out
        clear hb
        go_wp2_with fail
        refine (G.out _ HK.out).mono ?_
        rintro e w2 ⟨rfl, hb⟩
        replace B0 := Lib.hid (below_trans B0.out hb)
        clear hb q0 q1 q2 q3 G d1 d2
        go_wp2
        go_ret
        exact ⟨rfl, B0.out⟩
      · obtain ⟨ao, cp, rfl⟩ := hv.slice
        obtain ⟨ao', cp', rfl⟩ := hu.slice
        clear hv hu hk hs
        have d1 : decide ((30 : Int) < xs.length) = false := by simp; omega
        have d2 : decide ((30 : Int) < ys.length) = true := by simp; omega
        unfold kv
        go_enter Try.func6, Try.ntmps6
        go_wp2_with fail
        refine (awake_true _).mono ?_
        rintro e w1 ⟨rfl, hb⟩
        replace B0 := Lib.hid (below_trans B0.out hb)
        clear hb hx hy
        go_wp2
        go_ret
        exact ⟨rfl, B0.out⟩
    · obtain ⟨ao, cp, rfl⟩ := hv.slice
      obtain ⟨ao', cp', rfl⟩ := hu.slice
      clear hv hu hk hs
      have d1 : decide ((30 : Int) < xs.length) = true := by simp; omega
      unfold kv
      go_enter Try.func6, Try.ntmps6
      go_wp2_with fail
      refine (awake_true _).mono ?_
      rintro e w1 ⟨rfl, hb⟩
      replace B0 := Lib.hid (below_trans B0.out hb)
      clear hb hx
      go_wp2
      go_ret
      exact ⟨rfl, B0.out⟩
end Go.Proofs.Ytlhhjbjdinimjaa
