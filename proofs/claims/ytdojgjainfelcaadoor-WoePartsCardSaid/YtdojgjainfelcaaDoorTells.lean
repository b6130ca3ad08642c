import Derived.Test.YtdojgjainfelcaaDoorQ
namespace Go.Proofs.YtdojgjainfelcaaDoor
open Go.RowKit Go.Extern.Stop Go.Stop Go.Extern

theorem Row.slice {W : World} {v : Value} {xs : List Int} (h : Row W v xs) : ∃ ao c, v = .slice ao xs.length c := by
  rcases h with ⟨⟨_, _, rfl⟩, rfl⟩ | ⟨b, off, cap, rfl, _⟩
  · exact ⟨_, _, rfl⟩
  · exact ⟨_, _, rfl⟩
def True1 (W : World) (e : Ending) (w' : World) : Prop := e = .returned (.bool true) ∧ Below W.heap.size W w'

set_option maxRecDepth 100000 in
set_option maxHeartbeats 4000000 in
theorem tells_long (s : Nat → Addr) (code : Int) (v : Value) (xs : List Int) (W : World) (L : Laid W s) (hv : Row W v xs) (hl : 40 < xs.length) :
    Calls Tryd.prog 3 #[.int .i64 code, v] W (True1 W) := by
  have HA := awake_true s W L
  obtain ⟨ao, c, rfl⟩ := hv.slice
  have h40 : (40 : Int) < xs.length := by omega
  clear L hv
  go_enter Tryd.func3, Tryd.ntmps3
  go_wp2_with (go_at_call 9; refine HA.mono ?_; rintro e w1 ⟨rfl, hb⟩; have B1 : Hid (Below W.heap.size W w1) := hb; clear hb)
  go_ret
  exact ⟨rfl, B1.out⟩

set_option maxRecDepth 100000 in
set_option maxHeartbeats 4000000 in
theorem tells_none (s : Nat → Addr) (code : Int) (v : Value) (xs : List Int) (W : World) (L : Laid W s) (hv : Row W v xs) (hl : xs.length ≤ 40) (hc : code < 1 ∨ 11 < code) :
    Calls Tryd.prog 3 #[.int .i64 code, v] W (True1 W) := by
  have HA := awake_true s W L
  have HV : Hid (Row W v xs) := hv
  obtain ⟨ao, c, rfl⟩ := hv.slice
  have h40 : (xs.length : Int) ≤ 40 := by omega
  have HC : Hid _ := hc
  clear L hv
  have hc2 : code < 1 ∨ 11 < code := hc
  rcases hc with hc | hc
  all_goals
    try have hc1 : ¬ code < 1 := by omega
    clear hc2
    go_enter Tryd.func3, Tryd.ntmps3
    go_wp2_with (first
      | (go_at_call 9; refine HA.mono ?_; rintro e w1 ⟨rfl, hb⟩; have B1 : Hid (Below W.heap.size W w1) := hb; clear hb)
      | (go_at_call 10; refine (wrapped_none code _ xs _ HC.out (Row.keep HV.out B1.out) (by omega)).mono ?_; rintro e w2 ⟨rfl, hb⟩; have B2 : Hid (Below W.heap.size W w2) := hid_trans B1 (hid_size B1) hb; clear hb)
      | (go_at_call 11; refine (Place_nil _).mono ?_; rintro e w3 ⟨rfl, hb⟩; have B3 : Hid (Below W.heap.size W w3) := hid_trans B2 (hid_size B2) hb; clear hb)
      | (go_at_call 12; refine (Code_nil _).mono ?_; rintro e w4 ⟨rfl, rfl⟩)
      | (go_at_call 13; refine (Path_nil _).mono ?_; rintro e w5 ⟨rfl, hb⟩; have B5 : Hid (Below W.heap.size W w5) := hid_trans B3 (hid_size B3) hb; clear hb))
    go_ret
    exact ⟨rfl, B5.out⟩

set_option maxRecDepth 100000 in
set_option maxHeartbeats 4000000 in
theorem tells_bare (s : Nat → Addr) (c : Nat) (v : Value) (W : World) (L : Laid W s) (hv : Row W v []) (h1 : 1 ≤ c) (h2 : c ≤ 11) :
    Calls Tryd.prog 3 #[.int .i64 c, v] W (True1 W) := by
  have HA := awake_true s W L
  have HL : Hid _ := L
  have HV : Hid (Row W v []) := hv
  obtain ⟨ao, cp, rfl⟩ := hv.slice
  have H1 : Hid (1 ≤ c) := h1
  have H2 : Hid (c ≤ 11) := h2
  clear L hv
  have hc1 : ¬ (c : Int) < 1 := by omega
  have hc2 : ¬ (11 : Int) < c := by omega
  go_enter Tryd.func3, Tryd.ntmps3
  go_wp2_with (first
    | (go_at_call 9; refine HA.mono ?_; rintro e w1 ⟨rfl, hb⟩; have B1 : Hid (Below W.heap.size W w1) := hb; clear hb)
    | (go_at_call 10; refine (wrapped_some s c _ [] _ (HL.out.keep B1.out) H1.out H2.out (Row.keep HV.out B1.out) (by simp)).mono ?_; rintro e w2 ⟨u, rfl, hch, hb⟩; obtain rfl : u = .iface 71 (.pointer (some (s c))) := (by cases hch; rfl); have B2 : Hid (Below W.heap.size W w2) := hid_trans B1 (hid_size B1) hb; clear hb hch)
    | (go_at_call 11; refine (Place_none _ s _ (HL.out.keep B2.out)).mono ?_; rintro e w3 ⟨rfl, hb⟩; have B3 : Hid (Below W.heap.size W w3) := hid_trans B2 (hid_size B2) hb; clear hb)
    | (go_at_call 12; refine (Code_ch (HL.out.keep B3.out) H1.out H2.out Ch.base (by simp)).mono ?_; rintro e w4 ⟨rfl, hb⟩; have B4 : Hid (Below W.heap.size W w4) := hid_trans B3 (hid_size B3) hb; clear hb)
    | (go_at_call 13; refine (Path_ch (a := s c) (ps := []) Ch.base (by simp)).mono ?_; rintro e w5 ⟨u5, rfl, hr, hb⟩; have B5 : Hid (Below W.heap.size W w5) := hid_trans B4 (hid_size B4) hb; have R5 : Hid (Row w5 u5 []) := hr; clear hb hr)
    | (go_at_call 15; refine (Back_any _ [] _ (Row.keep HV.out B5.out) (by simp)).mono ?_; rintro e w6 ⟨u6, rfl, hr, hb⟩; have R6 : Hid (Row w6 u6 []) := hr; have R5' : Hid (Row w6 u5 []) := Row.keep R5.out hb; have B6 : Hid (Below W.heap.size W w6) := hid_trans B5 (hid_size B5) hb; clear hb hr)
    | (go_at_call 14; refine (Ints_true _ _ [] _ R5'.out R6.out (by simp)).mono ?_; rintro e w7 ⟨rfl, hb⟩; have B7 : Hid (Below W.heap.size W w7) := hid_trans B6 (hid_size B6) hb; clear hb))
  go_ret
  exact ⟨rfl, B7.out⟩

set_option maxRecDepth 100000 in
set_option maxHeartbeats 400000 in
theorem tells_some (s : Nat → Addr) (c : Nat) (v : Value) (ys : List Int) (p : Int) (W : World) (L : Laid W s) (hv : Row W v (ys ++ [p])) (h1 : 1 ≤ c) (h2 : c ≤ 11) (hl : ys.length < 40) :
    Calls Tryd.prog 3 #[.int .i64 c, v] W (True1 W) := by
  have HA := awake_true s W L
  have HL : Hid _ := L
  have h := hv
  obtain ⟨m, hm⟩ : ∃ m, m = ys.length := ⟨_, rfl⟩
  have e1 : (ys ++ [p]).length = m + 1 := by simp [hm]
  rcases hv with ⟨_, h0⟩ | ⟨b, off, cp, rfl, hbs, hcap, hcell⟩
  · simp at h0
  have hp : Hid (W.cell? ⟨b, off + m, none⟩ = some (.int .i64 p)) := by
    show _ = _
    rw [hcell m (by omega)]; simp [hm]
  rw [e1] at h
  have HV : Hid (Row W (.slice (some ⟨b, off, none⟩) (m + 1) cp) (ys ++ [p])) := h
  rw [e1] at hcap ⊢
  have H1 : Hid (1 ≤ c) := h1
  have H2 : Hid (c ≤ 11) := h2
  have hm40 : (m : Int) + 1 ≤ 40 := by omega
  clear L h hcell
  have hc1 : ¬ (c : Int) < 1 := by omega
  have hc2 : ¬ (11 : Int) < c := by omega
  have HM : Hid (ys.length = m) := hm.symm
  have hrev : Hid ((ys ++ [p]).reverse = p :: ys.reverse) := by show _ = _; simp
  have hll : Hid ((p :: ys.reverse).length ≤ 200 ∧ ys.reverse.length ≤ 200 ∧ (ys ++ [p]).length ≤ 1000) := by have := HM.out; refine ⟨?_, ?_, ?_⟩ <;> simp <;> omega
  clear hm e1 h1 h2 hl
  go_enter Tryd.func3, Tryd.ntmps3
  go_wp2_with (first
    | (go_at_call 9; refine HA.mono ?_; rintro e w1 ⟨rfl, hb⟩; have B1 : Hid (Below W.heap.size W w1) := hb; clear hb)
    | (go_at_call 10; ((with_reducible refine (wrapped_some s c _ _ _ (HL.out.keep B1.out) H1.out H2.out (Row.keep HV.out B1.out) hll.out.2.2).mono ?_); rintro e w2 ⟨u, rfl, hch, hb⟩; rw [hrev.out] at hch;  obtain ⟨T, x, rfl⟩ := hch.shape; have C2 : Hid (Ch w2 (.iface 71 (.pointer (some (s c)))) (p :: ys.reverse) (.iface T x)) := hch; have B2 : Hid (Below W.heap.size W w2) := hid_trans B1 (hid_size B1) hb; clear hb hch))
    | (go_at_call 11; ((with_reducible refine (Place_ch (HL.out.keep B2.out) C2.out (Nat.le_trans hll.out.2.1 (by omega))).mono ?_); rintro e w3 ⟨rfl, hb⟩; have C3 : Hid (Ch w3 (.iface 71 (.pointer (some (s c)))) (p :: ys.reverse) (.iface T x)) := C2.out.keep hb; have B3 : Hid (Below W.heap.size W w3) := hid_trans B2 (hid_size B2) hb; clear hb))
    | (go_at_call 12; ((with_reducible refine (Code_ch (HL.out.keep B3.out) H1.out H2.out C3.out (Nat.le_trans hll.out.1 (by omega))).mono ?_); rintro e w4 ⟨rfl, hb⟩; have C4 : Hid (Ch w4 (.iface 71 (.pointer (some (s c)))) (p :: ys.reverse) (.iface T x)) := C3.out.keep hb; have B4 : Hid (Below W.heap.size W w4) := hid_trans B3 (hid_size B3) hb; clear hb))
    | (go_at_call 13; ((with_reducible refine (Path_ch C4.out hll.out.1).mono ?_); rintro e w5 ⟨u5, rfl, hr, hb⟩; have B5 : Hid (Below W.heap.size W w5) := hid_trans B4 (hid_size B4) hb; have R5 : Hid (Row w5 u5 (p :: ys.reverse)) := hr; clear hb hr))
    | (go_at_call 15; ((with_reducible refine (Back_any _ _ _ (Row.keep HV.out B5.out) hll.out.2.2).mono ?_); rintro e w6 ⟨u6, rfl, hr, hb⟩; rw [hrev.out] at hr; have R6 : Hid (Row w6 u6 (p :: ys.reverse)) := hr; have R5' : Hid (Row w6 u5 (p :: ys.reverse)) := Row.keep R5.out hb; have B6 : Hid (Below W.heap.size W w6) := hid_trans B5 (hid_size B5) hb; clear hb hr))
    | (go_at_call 14; ((with_reducible refine (Ints_true _ _ _ _ R5'.out R6.out (Nat.le_trans hll.out.1 (by omega))).mono ?_); rintro e w7 ⟨rfl, hb⟩; have B7 : Hid (Below W.heap.size W w7) := hid_trans B6 (hid_size B6) hb; clear hb; have kp : w7.cell? ⟨b, off + m, none⟩ = some (.int .i64 p) := (by rw [B7.out.cell (p := ⟨b, off + m, none⟩) hbs]; exact hp.out))))
  go_ret
  exact ⟨rfl, B7.out⟩

theorem tells_any (s : Nat → Addr) (code : Int) (v : Value) (xs : List Int) (W : World) (L : Laid W s) (hv : Row W v xs) :
    Calls Tryd.prog 3 #[.int .i64 code, v] W (True1 W) := by
  by_cases hl : 40 < xs.length
  · exact tells_long s code v xs W L hv hl
  by_cases hc : code < 1 ∨ 11 < code
  · exact tells_none s code v xs W L hv (by omega) hc
  obtain ⟨c, rfl⟩ : ∃ c : Nat, code = c := ⟨code.toNat, by omega⟩
  rcases List.eq_nil_or_concat xs with rfl | ⟨ys, p, rfl⟩
  · exact tells_bare s c v W L hv (by omega) (by omega)
  · rw [List.concat_eq_append] at *
    exact tells_some s c v ys p W L hv (by omega) (by omega) (by simp at hl; omega)
end Go.Proofs.YtdojgjainfelcaaDoor
