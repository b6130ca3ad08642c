import Derived.Test.YtdojgjainfelcaaDoorNames
import Derived.Deep.RegionWith
namespace Go.Proofs.YtdojgjainfelcaaDoor
open Go.RowKit Go.Extern.Stop Go.Stop Go.Extern

abbrev woeS : ByteArray := { data := #[119, 111, 101] }
theorem woe_error (p : Option Addr) (w : World) : Calls Tryd.prog 20 #[.pointer p] w fun e w' => e = .returned (.string woeS) ∧ w = w' := by
  go_enter Tryd.func20, Tryd.ntmps20
  go_wp2
  go_ret
  exact ⟨rfl, rfl⟩
theorem woe_unwrap_nil (w : World) : Calls Tryd.prog 21 #[.pointer none] w fun e w' => e = .returned .nilIface ∧ w = w' := by
  go_enter Tryd.func21, Tryd.ntmps21
  go_wp2
  go_ret
  exact ⟨rfl, rfl⟩

/-- errors.As into a new variable, at a chain's head. -/
theorem As_new (b : Nat) (s : Nat → Addr) (W : World) (L : Laid W s) :
    Calls Tryd.prog 19 #[.iface 40 (.pointer (some ⟨b, 0, none⟩)), .iface 42 (.pointer (some ⟨W.heap.size, 0, none⟩))] (W.alloc (.cells #[.pointer none] 40))
      fun ev w' => ev = .returned (.bool true) ∧ w'.cell? ⟨W.heap.size, 0, none⟩ = some (.pointer (some ⟨b, 0, none⟩)) ∧ Below W.heap.size W w' := by
  have lg := lt_of_cell L.hg
  refine (As_w40 ⟨b, 0, none⟩ W.heap.size (.pointer none) (W.alloc (.cells #[.pointer none] 40)) (by rw [World.cell?_alloc_lt _ _ _ lg]; exact L.hg) (by simp) (by simp)).mono fun ev w' h => ?_
  obtain ⟨e, hb⟩ := h
  refine ⟨e, ?_, Below.trans (Below.setCell (p := ⟨W.heap.size, 0, none⟩) ((Below.refl W.heap.size W).alloc (Nat.le_refl _) _) (Nat.le_refl _) _) (hb.mono (by rw [World.size_alloc]; omega))⟩
  rw [hb.cell (p := ⟨W.heap.size, 0, none⟩) (by rw [World.size_alloc]; exact Nat.lt_succ_self _)]
  exact World.cell?_setCell_same _ _ _ (by simp : _ = some (Value.pointer none))
theorem As_gen (b t : Nat) (s : Nat → Addr) (V : World) (L : Laid V s) (ht : V.cell? ⟨t, 0, none⟩ = some (.pointer none)) (hf : V.frozen? ⟨t, 0, none⟩ = false) :
    Calls Tryd.prog 19 #[.iface 40 (.pointer (some ⟨b, 0, none⟩)), .iface 42 (.pointer (some ⟨t, 0, none⟩))] V
      fun ev w' => ev = .returned (.bool true) ∧ w'.cell? ⟨t, 0, none⟩ = some (.pointer (some ⟨b, 0, none⟩)) ∧ ∀ B W, B ≤ t → B ≤ V.heap.size → Below B W V → Below B W w' := by
  refine (As_w40 ⟨b, 0, none⟩ t (.pointer none) V L.hg ht hf).mono fun ev w' h => ?_
  obtain ⟨e, hb⟩ := h
  refine ⟨e, ?_, fun B W hB hV hW => (hW.setCell (p := ⟨t, 0, none⟩) hB _).trans (hb.mono hV)⟩
  rw [hb.cell (p := ⟨t, 0, none⟩) (lt_of_cell ht)]
  exact World.cell?_setCell_same _ _ _ ht
theorem As_new_none (p : Addr) (s : Nat → Addr) (W : World) (L : Laid W s) :
    Calls Tryd.prog 19 #[.iface 71 (.pointer (some p)), .iface 42 (.pointer (some ⟨W.heap.size, 0, none⟩))] (W.alloc (.cells #[.pointer none] 40))
      fun ev w' => ev = .returned (.bool false) ∧ w'.cell? ⟨W.heap.size, 0, none⟩ = some (.pointer none) ∧ Below W.heap.size W w' := by
  have lg := lt_of_cell L.hg
  refine (As_s40 p W.heap.size (.pointer none) (W.alloc (.cells #[.pointer none] 40)) (by rw [World.cell?_alloc_lt _ _ _ lg]; exact L.hg) (by simp) (by simp)).mono fun ev w' h => ?_
  obtain ⟨e, hb⟩ := h
  refine ⟨e, ?_, Below.trans ((Below.refl W.heap.size W).alloc (Nat.le_refl _) _) (hb.mono (by rw [World.size_alloc]; omega))⟩
  rw [hb.cell (p := ⟨W.heap.size, 0, none⟩) (by rw [World.size_alloc]; exact Nat.lt_succ_self _)]
  simp
theorem As_new_nil (W : World) :
    Calls Tryd.prog 19 #[.nilIface, .iface 42 (.pointer (some ⟨W.heap.size, 0, none⟩))] (W.alloc (.cells #[.pointer none] 40))
      fun ev w' => ev = .returned (.bool false) ∧ w'.cell? ⟨W.heap.size, 0, none⟩ = some (.pointer none) ∧ Below W.heap.size W w' :=
  (As_nil _ _).mono fun ev w' ⟨e, h⟩ => ⟨e, by rw [← h]; simp, by rw [← h]; exact (Below.refl W.heap.size W).alloc (Nat.le_refl _) _⟩

set_option maxRecDepth 100000 in
set_option maxHeartbeats 4000000 in
theorem opens_long (s : Nat → Addr) (code : Int) (v : Value) (xs : List Int) (W : World) (L : Laid W s) (hv : Row W v xs) (hl : 40 < xs.length) :
    Calls Tryd.prog 6 #[.int .i64 code, v] W (True1 W) := by
  have HA := awake_true s W L
  obtain ⟨ao, c, rfl⟩ := hv.slice
  have h40 : (40 : Int) < xs.length := by omega
  clear L hv
  go_enter Tryd.func6, Tryd.ntmps6
  go_wp2_with (go_at_call 9; refine HA.mono ?_; rintro e w1 ⟨rfl, hb⟩; have B1 : Hid (Below W.heap.size W w1) := hb; clear hb)
  go_ret
  exact ⟨rfl, B1.out⟩

def OpRel (W : World) (t : Value) (xs : List Int) (e i : Value) (wr : World) : Prop :=
  ∃ k, k ≤ xs.length ∧ (∃ m : Int, i = .int .i64 m ∧ m = (k : Int) - 1) ∧ Ch wr t (xs.take k).reverse e ∧ Below W.heap.size W wr

set_option maxRecDepth 100000 in
set_option maxHeartbeats 4000000 in
theorem opens_none (s : Nat → Addr) (code : Int) (v : Value) (xs : List Int) (W : World) (L : Laid W s) (hv : Row W v xs) (hl : xs.length ≤ 40) (hc : code < 1 ∨ 11 < code) :
    Calls Tryd.prog 6 #[.int .i64 code, v] W (True1 W) := by
  have HA := awake_true s W L
  have HV : Hid (Row W v xs) := hv
  obtain ⟨ao, c, rfl⟩ := hv.slice
  have h40 : (xs.length : Int) ≤ 40 := by omega
  have HC : Hid _ := hc
  clear L hv
  have hc2 : code < 1 ∨ 11 < code := hc
  rcases hc with hc | hc
  all_goals
    try have hc1 : ¬ code < 1 := by omega
    clear hc2
    go_enter Tryd.func6, Tryd.ntmps6
    go_wp2_with (first
      | (go_at_call 9; refine HA.mono ?_; rintro e w1 ⟨rfl, hb⟩; have B1 : Hid (Below W.heap.size W w1) := hb; clear hb)
      | (go_at_call 10; refine (wrapped_none code _ xs _ HC.out (Row.keep HV.out B1.out) (by omega)).mono ?_; rintro e w2 ⟨rfl, hb⟩; have B2 : Hid (Below W.heap.size W w2) := hid_trans B1 (hid_size B1) hb; clear hb))
    refine wp_loop_rounds 1 ?_
    rw [rounds_succ]
    by_cases h0 : xs.length = 0
    all_goals
      go_wp2_with (first
        | (go_at_call 19; refine (As_new_nil _).mono ?_; rintro e w3 ⟨rfl, k3, hb⟩; have B3 : Hid (Below W.heap.size W w3) := hid_trans B2 (hid_size B2) hb; clear hb)
        | (go_at_call 21; refine (woe_unwrap_nil _).mono ?_; rintro e w4 ⟨rfl, rfl⟩)
        | (go_at_call 20; refine (woe_error _ _).mono ?_; rintro e w4 ⟨rfl, rfl⟩))
      go_ret
      exact ⟨rfl, B3.out⟩

theorem Ch.un {W : World} {t : Value} {p : Int} {ps : List Int} {e : Value} (h : Ch W t (p :: ps) e) : ∃ b e', e = .iface 40 (.pointer (some ⟨b, 0, none⟩)) ∧ W.cell? ⟨b, 0, none⟩ = some (.int .i64 p) ∧ W.cell? ⟨b, 1, none⟩ = some e' ∧ Ch W t ps e' := by
  cases h with
  | woe hn h0 h1 hz r => exact ⟨_, _, rfl, h0, h1, Chain.mono r (by omega)⟩

set_option maxRecDepth 100000 in
set_option maxHeartbeats 4000000 in
theorem opens_some (s : Nat → Addr) (c : Nat) (v : Value) (xs : List Int) (W : World) (L : Laid W s) (hv : Row W v xs) (h1 : 1 ≤ c) (h2 : c ≤ 11) (hl : xs.length ≤ 40) :
    Calls Tryd.prog 6 #[.int .i64 c, v] W (True1 W) := by
  have HA := awake_true s W L
  have HV : Hid (Row W v xs) := hv
  have HL : Hid _ := L
  obtain ⟨ao, cp, rfl⟩ := hv.slice
  have h40 : (xs.length : Int) ≤ 40 := by omega
  have H1 : Hid (1 ≤ c) := h1
  have H2 : Hid (c ≤ 11) := h2
  have hll : Hid (xs.length ≤ 1000) := by show _ ≤ _; omega
  clear L hv
  have hc1 : ¬ (c : Int) < 1 := by omega
  have hc2 : ¬ (11 : Int) < c := by omega
  have hd1 : decide ((c : Int) < 1) = false := by simp; omega
  have hd2 : decide ((11 : Int) < c) = false := by simp; omega
  clear h1 h2 hl
  go_enter Tryd.func6, Tryd.ntmps6
  go_wp2_with (first
    | (go_at_call 9; refine HA.mono ?_; rintro e w1 ⟨rfl, hb⟩; have B1 : Hid (Below W.heap.size W w1) := hb; clear hb)
    | (go_at_call 10; refine (wrapped_some s c _ xs _ (HL.out.keep B1.out) H1.out H2.out (Row.keep HV.out B1.out) hll.out).mono ?_; rintro e w2 ⟨u, rfl, hch, hb⟩; have C2 : Hid (Ch w2 (.iface 71 (.pointer (some (s c)))) xs.reverse u) := hch; have B2 : Hid (Below W.heap.size W w2) := hid_trans B1 (hid_size B1) hb; clear hb hch))
  go_loopw [5, 6] (fun e i wr => OpRel W (.iface 71 (.pointer (some (s c)))) xs e i wr) (fun _ i _ => (intOf i + 1).toNat)
  case atStart => exact ⟨xs.length, Nat.le_refl _, ⟨_, rfl, rfl⟩, by rw [List.take_length]; exact C2.out, B2.out⟩
  case round =>
    obtain ⟨k, hk, ⟨m, rfl, hm⟩, hC, hb⟩ := hrel
    have HB : Hid (Below W.heap.size W wr) := hb
    have HLr : Hid (Laid wr s) := HL.out.keep hb
    cases k with
    | zero =>
      obtain rfl : m = -1 := by simpa using hm
      rw [List.take_zero] at hC
      obtain rfl : u5 = .iface 71 (.pointer (some (s c))) := by cases hC; rfl
      clear hm hC hb
      go_wp2_with (first
        | (go_at_call 19; refine (As_new_none (s c) s _ HLr.out).mono ?_; rintro e w3 ⟨rfl, k3, hb⟩; have B3 : Hid (Below W.heap.size W w3) := hid_trans HB (hid_size HB) hb; clear hb)
        | (go_at_call 21; refine (woe_unwrap_nil _).mono ?_; rintro e w4 ⟨rfl, rfl⟩)
        | (go_at_call 20; refine (woe_error _ _).mono ?_; rintro e w4 ⟨rfl, rfl⟩))
      go_ret
      exact ⟨rfl, B3.out⟩
    | succ j =>
      obtain rfl : m = j := by rw [hm]; omega
      have hlt : j < xs.length := by omega
      rw [take_rev xs j hlt] at hC
      obtain ⟨b, e', rfl, hb0, hb1, hC'⟩ := hC.un
      obtain ⟨T, x, rfl⟩ := hC'.shape
      rcases Row.keep HV.out hb with ⟨_, rfl⟩ | ⟨pb, off, cap, e1, hpb, _, h4⟩
      · simp at hlt
      have g1 := h4 j hlt
      cases e1
      have hlt' : (j : Int) < xs.length := by omega
      have hk0 : (0 : Int) ≤ j := by omega
      have HC' : Hid (Ch wr (.iface 71 (.pointer (some (s c)))) (xs.take j).reverse (.iface T x)) := hC'
      have G1 : Hid (wr.cell? ⟨pb, off + j, none⟩ = some (.int .i64 xs[j]) ∧ wr.cell? ⟨b, 0, none⟩ = some (.int .i64 xs[j]) ∧ wr.cell? ⟨b, 1, none⟩ = some (.iface T x)) := ⟨g1, hb0, hb1⟩
      have lb : b < wr.heap.size := lt_of_cell hb0
      have hV : Below wr.heap.size wr (wr.alloc (.cells #[.pointer none] 40)).drew := ((Below.refl wr.heap.size wr).alloc (Nat.le_refl _) _).drew
      have hAs0 := As_gen b wr.heap.size s (wr.alloc (.cells #[.pointer none] 40)).drew (HLr.out.keep hV) (by show (wr.alloc _).cell? _ = _; simp) (by show (wr.alloc _).frozen? _ = _; simp)
      have hAs := hAs0.mono (R' := fun ev w' => ev = .returned (.bool true) ∧ w'.cell? ⟨wr.heap.size, 0, none⟩ = some (.pointer (some ⟨b, 0, none⟩)) ∧ w'.cell? ⟨b, 0, none⟩ = some (.int .i64 xs[j]) ∧ w'.cell? ⟨pb, off + j, none⟩ = some (.int .i64 xs[j]) ∧ w'.cell? ⟨b, 1, none⟩ = some (.iface T x) ∧ Hid (Below wr.heap.size wr w')) (fun ev w' h => by
        obtain ⟨e, h1, h2⟩ := h
        have hB : Below wr.heap.size wr w' := h2 wr.heap.size wr (Nat.le_refl _) hV.size hV
        exact ⟨e, h1, by rw [hB.cell (p := ⟨b, 0, none⟩) lb]; exact G1.out.2.1, by rw [hB.cell (p := ⟨pb, off + j, none⟩) hpb]; exact G1.out.1, by rw [hB.cell (p := ⟨b, 1, none⟩) lb]; exact G1.out.2.2, hB⟩)
      clear hm hC hC' hb h4 g1 hb0 hb1 hAs0 hV
      go_wp2
      go_region_with (first
        | (go_at_call 19; refine hAs.mono ?_; rintro e w3 ⟨rfl, k3, q1, q2, q3, hb⟩)
        | (go_at_call 20; refine (woe_error _ _).mono ?_; rintro e w4 ⟨rfl, rfl⟩))
      all_goals
        go_wp2_with (go_at_call 21; refine (woe_unwrap b (.iface T x) _ ‹_›).mono ?_; rintro e w4 ⟨rfl, rfl⟩)
        go_roundw
        case rel => exact ⟨j, by omega, ⟨_, rfl, rfl⟩, HC'.out.keep hb.out, HB.out.trans (hb.out.mono HB.out.size)⟩
        case measure => simp [intOf]

theorem opens_any (s : Nat → Addr) (code : Int) (v : Value) (xs : List Int) (W : World) (L : Laid W s) (hv : Row W v xs) :
    Calls Tryd.prog 6 #[.int .i64 code, v] W (True1 W) := by
  by_cases hl : 40 < xs.length
  · exact opens_long s code v xs W L hv hl
  by_cases hc : code < 1 ∨ 11 < code
  · exact opens_none s code v xs W L hv (by omega) hc
  obtain ⟨c, rfl⟩ : ∃ c : Nat, code = c := ⟨code.toNat, by omega⟩
  exact opens_some s c v xs W L hv (by omega) (by omega) (by omega)
end Go.Proofs.YtdojgjainfelcaaDoor
