import Derived.Test.YtdojgjainfelcaaDoorTells
namespace Go.Proofs.YtdojgjainfelcaaDoor
open Go.RowKit Go.Extern.Stop Go.Stop Go.Extern

/-- An error that is none of the named ones. -/
theorem Ch.foreign {W : World} {s : Nat → Addr} {a : Addr} {ps : List Int} {v : Value} (L : Laid W s) (ha : Blk W a) (hne : ∀ i, 1 ≤ i → i ≤ 11 → a ≠ s i) (h : Ch W (.iface 71 (.pointer (some a))) ps v) : Knows W s v (fun _ => false) := by
  intro i h3 h4 w1 hb
  have := (h.keep hb).is (ha.keep hb) ((L.blk i h3 h4).keep hb)
  rwa [decide_eq_false (hne i h3 h4)] at this
theorem Code_foreign {W : World} {s : Nat → Addr} {a : Addr} {ps : List Int} {v : Value} (L : Laid W s) (ha : Blk W a) (hne : ∀ i, 1 ≤ i → i ≤ 11 → a ≠ s i) (h : Ch W (.iface 71 (.pointer (some a))) ps v) (hl : ps.length ≤ 1000) :
    Calls Tryd.prog 12 #[v] W fun e w' => e = .returned (.int .i64 (-1)) ∧ Below W.heap.size W w' :=
  Code_miss s v _ W L (h.ends hl) (h.foreign L ha hne) (fun _ _ _ => rfl)

theorem New_blk (x : ByteArray) (w : World) : Calls Tryd.prog 22 #[.string x] w fun e w' => e = .returned (.iface 71 (.pointer (some ⟨w.heap.size, 0, none⟩))) ∧ Below w.heap.size w w' ∧ Blk w' ⟨w.heap.size, 0, none⟩ :=
  (New_any x w).mono fun e w' ⟨he, hw⟩ => ⟨he, by rw [hw]; exact (Below.refl _ _).alloc (Nat.le_refl _) _, by
    rw [hw]
    refine ⟨#[.string x], 73, ?_⟩
    show (w.heap.push _)[w.heap.size]? = _
    simp⟩
theorem Is_self {W : World} {a : Addr} {ps : List Int} {v : Value} (h : Ch W (.iface 71 (.pointer (some a))) ps v) (ha : Blk W a) :
    Calls Tryd.prog 16 #[v, .iface 71 (.pointer (some a))] W fun e w' => e = .returned (.bool true) ∧ W = w' := by
  have := (h.is ha ha).Is
  simpa using this
theorem Is_foreign {W : World} {s : Nat → Addr} {a : Addr} {ps : List Int} {v : Value} (i : Nat) (L : Laid W s) (ha : Blk W a) (hne : ∀ i, 1 ≤ i → i ≤ 11 → a ≠ s i) (h1 : 1 ≤ i) (h2 : i ≤ 11) (h : Ch W (.iface 71 (.pointer (some a))) ps v) :
    Calls Tryd.prog 16 #[v, .iface 71 (.pointer (some (s i)))] W fun e w' => e = .returned (.bool false) ∧ W = w' :=
  (h.foreign L ha hne i h1 h2 W (Below.refl _ _)).Is

set_option maxRecDepth 100000 in
set_option maxHeartbeats 4000000 in
theorem strange_long (s : Nat → Addr) (v : Value) (xs : List Int) (W : World) (L : Laid W s) (hv : Row W v xs) (hl : 40 < xs.length) :
    Calls Tryd.prog 7 #[v] W (True1 W) := by
  have HA := awake_true s W L
  obtain ⟨ao, c, rfl⟩ := hv.slice
  have h40 : (40 : Int) < xs.length := by omega
  clear L hv
  go_enter Tryd.func7, Tryd.ntmps7
  go_wp2_with (go_at_call 9; refine HA.mono ?_; rintro e w1 ⟨rfl, hb⟩; have B1 : Hid (Below W.heap.size W w1) := hb; clear hb)
  go_ret
  exact ⟨rfl, B1.out⟩

def StrRel (W : World) (a : Nat) (xs : List Int) (e i : Value) (wr : World) : Prop :=
  ∃ k : Nat, i = .int .i64 k ∧ k ≤ xs.length ∧ Ch wr (.iface 71 (.pointer (some ⟨a, 0, none⟩))) (xs.take k).reverse e ∧ Below W.heap.size W wr ∧ Blk wr ⟨a, 0, none⟩
set_option maxRecDepth 100000 in
set_option maxHeartbeats 4000000 in
theorem strange_short (s : Nat → Addr) (v : Value) (xs : List Int) (W : World) (L : Laid W s) (hv : Row W v xs) (hl : xs.length ≤ 40) :
    Calls Tryd.prog 7 #[v] W (True1 W) := by
  have HA := awake_true s W L
  have HV : Hid (Row W v xs) := hv
  have HL : Hid _ := L
  obtain ⟨ao, c, rfl⟩ := hv.slice
  have h40 : (xs.length : Int) ≤ 40 := by omega
  have HLn : Hid (xs.length ≤ 40) := hl
  clear L hv hl
  go_enter Tryd.func7, Tryd.ntmps7
  go_wp2_with (first
    | (go_at_call 9; refine HA.mono ?_; rintro e w1 ⟨rfl, hb⟩; have B1 : Hid (Below W.heap.size W w1) := hb; clear hb)
    | (go_at_call 22; refine (New_blk _ _).mono ?_; rintro e w2 ⟨rfl, hb, hk⟩; have B2 : Hid (Below W.heap.size W w2) := hid_trans B1 (hid_size B1) hb; have K2 : Hid (Blk w2 ⟨w1.heap.size, 0, none⟩) := hk; clear hb hk))
  have HN : Hid (∀ i, 1 ≤ i → i ≤ 11 → (⟨w1.heap.size, 0, none⟩ : Addr) ≠ s i) := fun i h1 h2 e => by
    have := ((HL.out.keep B1.out).blk i h1 h2).lt
    rw [← e] at this
    exact Nat.lt_irrefl _ this
  generalize w1.heap.size = a at *
  go_loopw [4, 5] (fun e i wr => StrRel W a xs e i wr) (fun _ i _ => xs.length - (intOf i).toNat)
  case atStart => exact ⟨0, rfl, Nat.zero_le _, by rw [List.take_zero]; exact Ch.base, B2.out, K2.out⟩
  case round =>
    obtain ⟨k, rfl, hk, hC, hb, hK⟩ := hrel
    obtain ⟨T, x, rfl⟩ := hC.shape
    have HC : Hid (Ch wr (.iface 71 (.pointer (some ⟨a, 0, none⟩))) (xs.take k).reverse (.iface T x)) := hC
    have HB : Hid (Below W.heap.size W wr) := hb
    have HK : Hid (Blk wr ⟨a, 0, none⟩) := hK
    clear hC hK
    by_cases hlt : k < xs.length
    · rcases Row.keep HV.out hb with ⟨_, rfl⟩ | ⟨b, off, cap, e1, _, _, h4⟩
      · simp at hlt
      have g1 := h4 k hlt
      cases e1
      clear h4 hb
      have hlt' : (k : Int) < xs.length := by omega
      have hk0 : (0 : Int) ≤ k := by omega
      go_wp2_with (go_at_call 18; refine (At_some _ _ _ _).mono ?_; rintro e w3 ⟨rfl, rfl⟩)
      go_roundw
      case rel => exact ⟨k + 1, by go_num, by omega, by rw [take_rev xs k hlt]; exact HC.out.push _, HB.out.alloc HB.out.size _, HK.out.keep ((Below.refl _ _).alloc (Nat.le_refl _) _)⟩
      case measure => simp [intOf]; omega
    · obtain rfl : k = xs.length := by omega
      clear hb
      have C0 : Hid (Ch wr (.iface 71 (.pointer (some ⟨a, 0, none⟩))) xs.reverse (.iface T x)) := by have := HC.out; rw [List.take_length] at this; exact this
      have hll : Hid (xs.reverse.length ≤ 200 ∧ xs.reverse.length ≤ 1000 ∧ xs.length ≤ 1000) := by have := HLn.out; exact ⟨by rw [List.length_reverse]; omega, by rw [List.length_reverse]; omega, by omega⟩
      clear HC
      go_wp2_with (first
        | (go_at_call 12; ((with_reducible refine (Code_foreign (HL.out.keep C3.out) K3.out HN.out C3'.out hll.out.2.1).mono ?_); rintro e w4 ⟨rfl, hb⟩; have C4 : Hid (Below W.heap.size W w4) := hid_trans C3 (hid_size C3) hb; have C4' : Hid (Ch w4 (.iface 71 (.pointer (some ⟨a, 0, none⟩))) xs.reverse (.iface T x)) := C3'.out.keep hb; have K4 : Hid (Blk w4 ⟨a, 0, none⟩) := K3.out.keep hb; clear hb; have k0 := (HL.out.keep C4.out).g 0 (by omega)))
        | (go_at_call 12; ((with_reducible refine (Code_foreign (HL.out.keep HB.out) HK.out HN.out Ch.base (Nat.zero_le _)).mono ?_); rintro e w3 ⟨rfl, hb⟩; have C3 : Hid (Below W.heap.size W w3) := hid_trans HB (hid_size HB) hb; have C3' : Hid (Ch w3 (.iface 71 (.pointer (some ⟨a, 0, none⟩))) xs.reverse (.iface T x)) := C0.out.keep hb; have K3 : Hid (Blk w3 ⟨a, 0, none⟩) := HK.out.keep hb; clear hb))
        | (go_at_call 16; ((with_reducible refine (Is_self C4'.out K4.out).mono ?_); rintro e w5 ⟨rfl, rfl⟩))
        | (go_at_call 16; ((with_reducible refine (Is_foreign 1 (HL.out.keep C4.out) K4.out HN.out (by omega) (by omega) C4'.out).mono ?_); rintro e w5 ⟨rfl, rfl⟩))
        | (go_at_call 13; ((with_reducible refine (Path_ch C4'.out hll.out.1).mono ?_); rintro e w6 ⟨u6, rfl, hr, hb⟩; have B6 : Hid (Below W.heap.size W w6) := hid_trans C4 (hid_size C4) hb; have R6 : Hid (Row w6 u6 xs.reverse) := hr; clear hb hr))
        | (go_at_call 15; ((with_reducible refine (Back_any _ _ _ (Row.keep HV.out B6.out) hll.out.2.2).mono ?_); rintro e w7 ⟨u7, rfl, hr, hb⟩; have R7 : Hid (Row w7 u7 xs.reverse) := hr; have R7' : Hid (Row w7 u6 xs.reverse) := Row.keep R6.out hb; have B7 : Hid (Below W.heap.size W w7) := hid_trans B6 (hid_size B6) hb; clear hb hr))
        | (go_at_call 14; ((with_reducible refine (Ints_true _ _ _ _ R7'.out R7.out hll.out.2.1).mono ?_); rintro e w8 ⟨rfl, hb⟩; have B8 : Hid (Below W.heap.size W w8) := hid_trans B7 (hid_size B7) hb; clear hb))
        | (go_at_call 13; ((with_reducible refine (Path_nil _).mono ?_); rintro e w9 ⟨rfl, hb⟩; have B9 : Hid (Below W.heap.size W w9) := hid_trans B8 (hid_size B8) hb; clear hb)))
      go_ret
      exact ⟨rfl, B9.out⟩

theorem strange_any (s : Nat → Addr) (v : Value) (xs : List Int) (W : World) (L : Laid W s) (hv : Row W v xs) : Calls Tryd.prog 7 #[v] W (True1 W) := by
  by_cases hl : 40 < xs.length
  · exact strange_long s v xs W L hv hl
  · exact strange_short s v xs W L hv (by omega)
end Go.Proofs.YtdojgjainfelcaaDoor
