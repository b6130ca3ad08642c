/- The walk of SieveSpans. A template (fill.py). -/
import Derived.Test.YtlhhjbjdinimjaaSx
import Derived.IntWalk
namespace Go.Proofs.Ytlhhjbjdinimjaa
open Go.RowKit Go.Extern.Stop Go.Stop Go.Extern Go.Sort

theorem mod_in (n : Int) (m : Int) (hm : 0 < m ∧ m < 1000) : ∃ f : Int, 0 ≤ f ∧ f < m ∧ wrap64 ((IntKind.u64.wrap n).tmod m) = f := by
  have h0 : 0 ≤ IntKind.u64.wrap n := by
    have e1 : ((2 : Int) ^ IntKind.u64.bits) = 18446744073709551616 := by decide
    unfold IntKind.wrap
    simp only [e1]
    have : IntKind.u64.signed = false := rfl
    simp only [this]
    simp
    omega
  have h1 : 0 ≤ (IntKind.u64.wrap n).tmod m := Int.tmod_nonneg _ h0
  have h2 : (IntKind.u64.wrap n).tmod m < m := Int.tmod_lt_of_pos _ hm.1
  exact ⟨_, h1, h2, IntWalk.wrap64_in _ ⟨by omega, by omega⟩⟩
/-- The eras from lo on; each as a span of its own. -/
def eL (lo : Int) (j : Nat) : List Int := (List.range j).map fun (i : Nat) => lo + (i : Int)
def sL (lo : Int) (j : Nat) : List Sp := (List.range j).map fun (i : Nat) => ⟨true, lo + (i : Int), lo + (i : Int)⟩
theorem eL_len (lo : Int) (j : Nat) : (eL lo j).length = j := by simp [eL]
theorem sL_len (lo : Int) (j : Nat) : (sL lo j).length = j := by simp [sL]
theorem eL_succ (lo : Int) (j : Nat) : eL lo (j + 1) = eL lo j ++ [lo + (j : Int)] := by simp [eL, List.range_succ]
theorem sL_succ (lo : Int) (j : Nat) : sL lo (j + 1) = sL lo j ++ [⟨true, lo + (j : Int), lo + (j : Int)⟩] := by simp [sL, List.range_succ]
theorem span_eras (lo : Int) (M : Nat) (n : Nt) (h1 : 1 ≤ lo) (h2 : 1 ≤ M) (hn : n.birth ≤ n.death) : spanP [⟨true, lo, lo + (M : Int) - 1⟩] n = eraP (eL lo M) n := by
  rw [Bool.eq_iff_iff]
  simp only [spanP, eraP, eL, List.any_cons, List.any_nil, spanK, eraK, List.any_map, List.any_eq_true, Bool.or_false, Bool.and_eq_true, decide_eq_true_eq, List.mem_range, Function.comp, true_and]
  constructor
  · rintro ⟨a, b⟩
    by_cases h : lo ≤ n.birth
    · exact ⟨(n.birth - lo).toNat, by omega, ⟨by omega, by omega⟩, by omega⟩
    · exact ⟨0, by omega, ⟨by omega, by omega⟩, by omega⟩
  · rintro ⟨i, hi, ⟨a, b⟩, c⟩
    exact ⟨by omega, by omega⟩
theorem eras_spans (lo : Int) (M : Nat) (n : Nt) (h1 : 1 ≤ lo) : eraP (eL lo M) n = spanP (sL lo M) n := by
  rw [Bool.eq_iff_iff]
  simp only [spanP, eraP, eL, sL, spanK, eraK, List.any_map, List.any_eq_true, Bool.and_eq_true, decide_eq_true_eq, List.mem_range, Function.comp, true_and]
  constructor
  · rintro ⟨i, hi, ⟨a, b⟩, c⟩
    exact ⟨i, hi, by omega, by omega⟩
  · rintro ⟨i, hi, a, b⟩
    exact ⟨i, hi, ⟨by omega, by omega⟩, by omega⟩
theorem filt_same {p q : Nt → Bool} {xs : List Nt} (h : ∀ n ∈ xs, p n = q n) : (xs.filter fun n => !p n) = xs.filter fun n => !q n :=
  List.filter_congr fun n hn => by rw [h n hn]
/-- Rows of unlike elements never share a block. -/
theorem own_apart {w : World} {b b' : Nat} {e e' : TypeId} {k k' m m' : Nat} {v u : Value} {xs ys : List Value} (h : w.ownsRow b e k v m xs) (h' : w.ownsRow b' e' k' u m' ys) (hne : e ≠ e') : v.ownBlock = none ∨ v.ownBlock ≠ u.ownBlock := by
  rcases h.2 with ⟨rfl, _⟩ | ⟨g, cap, cur, rfl, _, hh, _⟩
  · exact .inl rfl
  · rcases h'.2 with ⟨rfl, _⟩ | ⟨g', cap', cur', rfl, _, hh', _⟩
    · exact .inr (by simp [Value.ownBlock])
    · refine .inr fun e1 => ?_
      have : g = g' := by simpa [Value.ownBlock] using e1
      subst this
      rw [hh] at hh'
      injection hh' with e2
      injection e2 with _ e3
      exact hne e3
theorem infoInt : (Try.prog.info? 3).map (fun i => (i.zero, i.size, i.bytes)) = some (some (.int .i64 0), 1, 8) := by kernel_rfl
theorem infoSpan : (Try.prog.info? 41).map (fun i => (i.zero, i.size, i.bytes)) = some (some (.agg #[.bool false, .int .i64 0, .int .i64 0]), 3, 24) := by kernel_rfl
theorem news3 (w : World) (s : Sp) (t : TypeId) : ∀ j u, (sc s)[j]? = some u → (w.alloc (.cells #[.bool s.is, .int .i64 s.low, .int .i64 s.high] t)).cell? ((⟨w.heap.size, 0, none⟩ : Addr).add j) = some u := fun j u hu => by
  have h := (BlkW.new w t #[.bool s.is, .int .i64 s.low, .int .i64 s.high]).cell j
  rw [Addr.add_mid, Nat.zero_add, h, List.getElem?_toArray]
  exact hu
def OkRel (xs : List Nt) (w : World) (vi : Value) (wr : World) : Prop := ∃ k : Nat, k ≤ xs.length ∧ vi = .int .i64 (k : Int) ∧ (∀ n ∈ xs.take k, n.birth ≤ n.death) ∧ Below w.heap.size w wr
def MkRel (lo : Int) (M : Nat) (w : World) (ve vs vi : Value) (wr : World) : Prop :=
  ∃ j : Nat, j ≤ M ∧ vi = .int .i64 (j : Int) ∧ wr.ownsRow w.heap.size 3 1 ve (eL lo j).length (flat ic (eL lo j)) ∧ wr.ownsRow w.heap.size 41 3 vs (sL lo j).length (flat sc (sL lo j)) ∧ Below w.heap.size w wr
set_option maxRecDepth 100000 in
set_option maxHeartbeats 8000000 in
theorem spans_any (v : Value) (xs : List Nt) (x y : Int) (w : World) (hv : RowC nc 7 w v xs) : Calls Try.prog 7 #[v, .int .i64 x, .int .i64 y] w (True1 w) := by
  obtain ⟨i0, hi0, hz0, hs0, hy0⟩ := info_parts infoInt
  obtain ⟨i3, hi3, hz3, hs3, hy3⟩ := info_parts infoSpan
  obtain ⟨f, f1, f2, f3⟩ := mod_in x 100 (by decide)
  obtain ⟨g, g1, g2, g3⟩ := mod_in y 40 (by decide)
  obtain ⟨lo, hlo⟩ : ∃ lo : Int, lo = 1 + f := ⟨_, rfl⟩
  obtain ⟨M, hM⟩ : ∃ M : Nat, (M : Int) = 1 + g := ⟨(1 + g).toNat, by omega⟩
  have LO := Lib.hid (show 1 ≤ lo ∧ lo ≤ 100 by omega)
  have MM := Lib.hid (show 1 ≤ M ∧ M ≤ 40 by omega)
  have w1' : wrap64 (1 + f) = lo := by rw [IntWalk.wrap64_in _ ⟨by omega, by omega⟩]; omega
  have w2' : wrap64 (1 + g) = (M : Int) := by rw [IntWalk.wrap64_in _ ⟨by omega, by omega⟩]; omega
  have HV := Lib.hid hv
  obtain ⟨ao, cp, rfl⟩ := hv.slice
  clear hv f1 f2 g1 g2 hlo hM
  by_cases hx : xs.length ≤ 60
  · have d1 : decide ((60 : Int) < xs.length) = false := by simp; omega
    go_enter Try.func7, Try.ntmps7
    go_wp2_with fail
    refine (awake_true _).mono ?_
    rintro e w1 ⟨rfl, hb⟩
    have B0 := Lib.hid hb
    replace HV := Lib.hid (HV.out.keep hb)
    clear hb
    go_wp2
    rw [w1', w2']
    clear w1' w2' f3 g3 d1
    go_loopw [8] (fun vi wr => OkRel xs w1 vi wr) (fun vi _ => xs.length - (intOf vi).toNat)
    case atStart => exact ⟨0, Nat.zero_le _, rfl, by simp, Below.refl _ _⟩
    case round =>
      obtain ⟨k, hkl, rfl, hok, hbel⟩ := hrel
      obtain ⟨wo, rfl⟩ : ∃ wo : World, wo = wr := ⟨_, rfl⟩
      have HB := Lib.hid hbel
      have OK := Lib.hid hok
      clear hok
      by_cases hlt : k < xs.length
      · rcases HV.out with ⟨_, e⟩ | ⟨b, off, cap', e, hbx, hcap, hcell⟩
        · subst e; exact absurd hlt (Nat.not_lt_zero _)
        · injection e with e1 e2 e3
          subst e1
          have hc := rangeAt_block (hcell k hlt) (hbel.block b hbx)
          have HS := Lib.hid (List.take_succ_eq_append_getElem hlt)
          obtain ⟨a, ha⟩ : ∃ a, a = xs[k] := ⟨_, rfl⟩
          rw [← ha] at hc HS
          obtain ⟨_, _, _, _, _, q5, q6⟩ := nc_cells hc
          clear hc hcell ha e2 e3 hbel
          have j1 : (k : Int) < xs.length := by omega
          by_cases hbd : a.birth ≤ a.death
          · have d2 : decide (a.death < a.birth) = false := by simp; omega
            have HD := Lib.hid hbd
            clear hbd
            go_wp2
            go_quiet (fail)
            clear q5 q6
            go_wp2
            go_roundw
            case rel => exact ⟨k + 1, by omega, by go_num, by
              rw [HS.out]
              intro n hn
              rcases List.mem_append.1 hn with h | h
              · exact OK.out n h
              · obtain rfl := List.mem_singleton.1 h
                exact HD.out, below_drewN HB.out _⟩
            case measure => simp [intOf]; omega
          · have d2 : decide (a.death < a.birth) = true := by simp; omega
            clear hbd
            go_wp2
            go_quiet (fail)
            clear q5 q6
            go_wp2
            go_ret
            exact ⟨rfl, below_trans B0.out (below_drewN HB.out _)⟩
      · obtain rfl : k = xs.length := by omega
        have HALL := Lib.hid (show ∀ n ∈ xs, n.birth ≤ n.death by have h := OK.out; rwa [List.take_length] at h)
        replace B0 := Lib.hid (below_trans B0.out HB.out)
        replace HV := Lib.hid (HV.out.keep HB.out)
        clear hlt hbel OK HB hkl
        have R1 := Lib.hid ((own_empty wo 3 1 wo.heap.size (Nat.le_refl _)).alloc (.cells #[] 41))
        have R2 := Lib.hid (own_empty (wo.alloc (.cells #[] 3)) 41 3 wo.heap.size (by rw [World.size_alloc]; exact Nat.le_succ _))
        have BB := Lib.hid (below_alloc (below_alloc (Below.refl wo.heap.size wo) (.cells #[] 3)) (.cells #[] 41))
        simp only [World.size_alloc] at R2
        go_wp2
        go_loopw [9, 10, 11] (fun ve vs vi wr => MkRel lo M wo ve vs vi wr) (fun _ _ vi _ => M - (intOf vi).toNat)
        case atStart => exact ⟨0, Nat.zero_le _, rfl, R1.out, R2.out, BB.out⟩
        case round =>
          obtain ⟨j, hjl, rfl, ho1, ho2, hbel⟩ := hrel
          obtain ⟨wp, rfl⟩ : ∃ wp : World, wp = wr := ⟨_, rfl⟩
          have BP := Lib.hid hbel
          have O1 := Lib.hid ho1
          have O2 := Lib.hid ho2
          clear hbel ho1 ho2 R1 R2 BB
          by_cases hjm : j < M
          · obtain ⟨s, hs⟩ : ∃ s : Int, s = lo + (j : Int) := ⟨_, rfl⟩
            have hw : wrap64 (lo + (j : Int)) = s := by have := LO.out; have := MM.out; rw [IntWalk.wrap64_in _ ⟨by omega, by omega⟩]; exact hs.symm
            have HSS := Lib.hid hs
            have j1 : (j : Int) < M := by omega
            have hM40 : M ≤ 40 := MM.out.2
            have el := eL_len lo j
            have sl := sL_len lo j
            rw [el] at O1
            rw [sl] at O2
            clear hs el sl
            go_wp2_with (at_builtin; refine wpList_append_own_at _ rfl _ _ 24 rfl wo.heap.size 3 i0 _ 1 8 Try.underlying24 hi0 hz0 hs0 hy0 rfl (by decide) u9 _ _ (by rfl) (O1.out.alloc _) ⟨wp.heap.size, 0, none⟩ 1 1 [.int .i64 s] (by rfl) rfl ?c1 ?c2 ?c3 ?c4 ?c5 ?_)
            case c1 => exact cell_one_new _ _ _
            case c2 => exact ic_one s
            case c3 => simp only [maxLen]; omega
            case c4 => omega
            case c5 => have := BP.out.size; rw [World.size_alloc]; omega
            intro v5 w5 hown5 hg5 _ _
            have P2 := Lib.hid (World.ownsRow.kept (O2.out.alloc (.cells #[.int .i64 s] 3)) hg5 (own_apart (O2.out.alloc (.cells #[.int .i64 s] 3)) (O1.out.alloc (.cells #[.int .i64 s] 3)) (by decide)))
            have B5 := Lib.hid (below_grown (BP.out.trans ((below_alloc (Below.refl wp.heap.size wp) (.cells #[.int .i64 s] 3)).mono BP.out.size)) hg5 (by have := BP.out.size; rw [World.size_alloc]; omega) (O1.out.alloc (.cells #[.int .i64 s] 3)))
            have P1 : Hid (w5.ownsRow wo.heap.size 3 1 v5 (j + 1) (flat ic (eL lo j ++ [s]))) := by rw [flat_snoc]; exact hown5
            clear hown5 hg5 O1 O2
            go_wp2_with (at_builtin; refine wpList_append_own_at _ rfl _ _ 25 rfl wo.heap.size 41 i3 _ 3 24 Try.underlying25 hi3 hz3 hs3 hy3 rfl (by decide) u10 _ _ (by rfl) (P2.out.alloc _) ⟨w5.heap.size, 0, none⟩ 1 1 (sc ⟨true, s, s⟩) (by rfl) rfl ?c6 ?c7 ?c8 ?c9 ?c10 ?_)
            case c6 => exact news3 w5 ⟨true, s, s⟩ _
            case c7 => exact sc_one _
            case c8 => simp only [maxLen]; omega
            case c9 => omega
            case c10 => have := B5.out.size; rw [World.size_alloc]; omega
            intro v6 w6 hown6 hg6 _ _
            have Q1 := Lib.hid (World.ownsRow.kept (P1.out.alloc (.cells (sc ⟨true, s, s⟩).toArray 41)) hg6 (own_apart (P1.out.alloc (.cells (sc ⟨true, s, s⟩).toArray 41)) (P2.out.alloc (.cells (sc ⟨true, s, s⟩).toArray 41)) (by decide)))
            have B6 := Lib.hid (below_grown (B5.out.trans ((below_alloc (Below.refl w5.heap.size w5) (.cells (sc ⟨true, s, s⟩).toArray 41)).mono B5.out.size)) hg6 (by have := B5.out.size; rw [World.size_alloc]; omega) (P2.out.alloc (.cells (sc ⟨true, s, s⟩).toArray 41)))
            have Q2 : Hid (w6.ownsRow wo.heap.size 41 3 v6 (j + 1) (flat sc (sL lo j ++ [⟨true, s, s⟩]))) := by rw [flat_snoc]; exact hown6
            rw [HSS.out, ← eL_succ] at Q1
            rw [HSS.out, ← sL_succ] at Q2
            clear hown6 hg6 P1 P2 hw
            go_wp2
            go_roundw
            case rel => exact ⟨j + 1, by omega, by go_num, by rw [eL_len]; exact Q1.out, by rw [sL_len]; exact Q2.out, B6.out⟩
            case measure => simp [intOf]; omega
          · obtain rfl : j = M := by omega
            have RE := Lib.hid (own_row ic_len O1.out)
            have RS := Lib.hid (own_row sc_len O2.out)
            obtain ⟨h, hh⟩ : ∃ h : Int, h = lo + (j : Int) - 1 := ⟨_, rfl⟩
            have hw : wrap64 (wrap64 (lo + (j : Int)) - 1) = h := by
              have := LO.out; have := MM.out
              rw [IntWalk.wrap64_in (lo + (j : Int)) ⟨by omega, by omega⟩, IntWalk.wrap64_in _ ⟨by omega, by omega⟩]; exact hh.symm
            have F1 := Lib.hid (filt_same (xs := xs) (p := spanP [⟨true, lo, h⟩]) (q := eraP (eL lo j)) (fun n hn => by rw [hh]; exact span_eras lo j n LO.out.1 MM.out.1 (HALL.out n hn)))
            have F2 := Lib.hid (filt_same (xs := xs) (p := spanP (sL lo j)) (q := eraP (eL lo j)) (fun n hn => (eras_spans lo j n LO.out.1).symm))
            have LF := Lib.hid (show (xs.filter fun n => !eraP (eL lo j) n).length ≤ 200 from Nat.le_trans (List.length_filter_le _ _) (by omega))
            have LE := Lib.hid (eL_len lo j)
            have LS := Lib.hid (sL_len lo j)
            have j40 := MM.out.2
            clear hh O1 O2 hjl hjm
            go_wp2_with fail
            rw [hw]
            have BX := Lib.hid (below_alloc (Below.refl wp.heap.size wp) (.cells (flat sc [⟨true, lo, h⟩]).toArray 41))
            have RX := Lib.hid (row_lit sc_len (cap := 1) (xs := [⟨true, lo, h⟩]) (BlkW.new wp 41 (flat sc [⟨true, lo, h⟩]).toArray) (Nat.le_refl 1))
            replace BP := Lib.hid (BP.out.trans (BX.out.mono BP.out.size))
            replace RE := Lib.hid (RE.out.keep BX.out)
            replace RS := Lib.hid (RS.out.keep BX.out)
            clear hw BX
            refine (Spans_any _ _ xs [⟨true, lo, h⟩] _ (HV.out.keep BP.out) RX.out (by omega) (by simp)).mono ?_
            rintro e w5 ⟨a, a', rfl, ra, _, hb⟩
            rw [F1.out] at ra
            replace BP := Lib.hid (BP.out.trans (hb.out.mono BP.out.size))
            replace RE := Lib.hid (RE.out.keep hb.out)
            replace RS := Lib.hid (RS.out.keep hb.out)
            clear hb RX F1
            go_wp2_with fail
            refine (Eras_any _ _ xs (eL lo j) _ (HV.out.keep BP.out) RE.out (by omega) (by rw [LE.out]; omega)).mono ?_
            rintro e w6 ⟨b, b', rfl, rb, _, hb⟩
            replace BP := Lib.hid (BP.out.trans (hb.out.mono BP.out.size))
            replace RS := Lib.hid (RS.out.keep hb.out)
            replace ra := Lib.hid (ra.out.keep hb.out)
            clear hb RE
            go_wp2_with fail
            refine (Spans_any _ _ xs (sL lo j) _ (HV.out.keep BP.out) RS.out (by omega) (by rw [LS.out]; omega)).mono ?_
            rintro e w7 ⟨c, c', rfl, rc, _, hb⟩
            rw [F2.out] at rc
            replace BP := Lib.hid (BP.out.trans (hb.out.mono BP.out.size))
            replace ra := Lib.hid (ra.out.keep hb.out)
            replace rb := Lib.hid (rb.out.keep hb.out)
            clear hb RS F2
            go_wp2_with fail
            refine (Same_any _ _ _ _ ra.out rb.out LF.out).mono ?_
            rintro e w8 ⟨rfl, hb⟩
            replace BP := Lib.hid (BP.out.trans (hb.mono BP.out.size))
            replace rb := Lib.hid (rb.out.keep hb)
            replace rc := Lib.hid (rc.out.keep hb)
            clear hb ra
            go_wp2_with fail
            refine (Same_any _ _ _ _ rb.out rc.out LF.out).mono ?_
            rintro e w9 ⟨rfl, hb⟩
            replace BP := Lib.hid (BP.out.trans (hb.mono BP.out.size))
            clear hb rb rc
            go_wp2
            go_ret
            exact ⟨rfl, below_trans B0.out BP.out⟩
  · have d1 : decide ((60 : Int) < xs.length) = true := by simp; omega
    go_enter Try.func7, Try.ntmps7
    go_wp2_with fail
    refine (awake_true _).mono ?_
    rintro e w1 ⟨rfl, hb⟩
    have B0 := Lib.hid hb
    clear hb hx
    go_wp2
    go_ret
    exact ⟨rfl, B0.out⟩
end Go.Proofs.Ytlhhjbjdinimjaa
