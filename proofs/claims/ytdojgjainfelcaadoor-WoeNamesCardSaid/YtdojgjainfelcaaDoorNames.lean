import Derived.Test.YtdojgjainfelcaaDoorStrange
import Derived.Deep.QuietTactic
import Derived.BigQuiet
namespace Go.Proofs.YtdojgjainfelcaaDoor
open Go.RowKit Go.Extern.Stop Go.Stop Go.Extern

theorem below_drewN (W : World) (n : Nat) : Below W.heap.size W (W.drewN n) := ⟨rfl, rfl, rfl, Nat.le_refl _, fun _ _ => rfl⟩
theorem quiet_left {f : FuncId} {args : Array Value} {w : World} {n : Nat} {v : Value} (h : Calls Tryd.prog f args (w.drewN n) fun e w' => e = .returned v ∧ w.drewN n = w') :
    Calls Tryd.prog f args (w.drewN n) fun e w'' => e = .returned v ∧ ∃ m, w'' = w.drewN m :=
  h.mono fun _ _ ⟨he, hm⟩ => ⟨he, n, hm.symm⟩

/-- The array of the named errors, in block N. -/
def Arr (w : World) (s : Nat → Addr) (N : Nat) : Prop := ∀ k, 1 ≤ k → k ≤ 11 → w.cell? ⟨N, k, none⟩ = some (.iface 71 (.pointer (some (s k))))
theorem Arr.keep {w w' : World} {s : Nat → Addr} {N : Nat} (h : Arr w s N) (hb : Below w.heap.size w w') : Arr w' s N :=
  fun k h1 h2 => by rw [hb.cell (p := ⟨N, k, none⟩) (lt_of_cell (h k h1 h2))]; exact h k h1 h2

theorem Is_yes {W : World} {s : Nat → Addr} {c : Nat} {ps : List Int} {v : Value} (L : Laid W s) (h1 : 1 ≤ c) (h2 : c ≤ 11) (h : Ch W (.iface 71 (.pointer (some (s c)))) ps v) :
    Calls Tryd.prog 16 #[v, .iface 71 (.pointer (some (s c)))] W fun e w' => e = .returned (.bool true) ∧ W = w' := by
  have := Is_ch L h1 h2 h1 h2 h
  simpa using this
theorem Is_no {W : World} {s : Nat → Addr} {c i : Nat} {ps : List Int} {v : Value} (L : Laid W s) (h1 : 1 ≤ c) (h2 : c ≤ 11) (h3 : 1 ≤ i) (h4 : i ≤ 11) (hr : c ≠ i) (h : Ch W (.iface 71 (.pointer (some (s c)))) ps v) :
    Calls Tryd.prog 16 #[v, .iface 71 (.pointer (some (s i)))] W fun e w' => e = .returned (.bool false) ∧ W = w' := by
  have := Is_ch L h1 h2 h3 h4 h
  rwa [decide_eq_false hr] at this

def InRel (W : World) (s : Nat → Addr) (N i : Nat) (ps : List Int) (v : Value) (k' : Value) (wr : World) : Prop :=
  ∃ k : Nat, k' = .int .i64 k ∧ 1 ≤ k ∧ k ≤ 12 ∧ Arr wr s N ∧ Below W.heap.size W wr ∧ Ch wr (.iface 71 (.pointer (some (s i)))) ps v
def OutRel (W : World) (s : Nat → Addr) (N : Nat) (i' : Value) (wr : World) : Prop :=
  ∃ i : Nat, i' = .int .i64 i ∧ 1 ≤ i ∧ i ≤ 12 ∧ Arr wr s N ∧ Below W.heap.size W wr

set_option maxRecDepth 100000 in
set_option maxHeartbeats 4000000 in
theorem names_long (s : Nat → Addr) (v : Value) (xs : List Int) (W : World) (L : Laid W s) (hv : Row W v xs) (hl : 40 < xs.length) :
    Calls Tryd.prog 4 #[v] W (True1 W) := by
  have HA := awake_true s W L
  obtain ⟨ao, c, rfl⟩ := hv.slice
  have h40 : (40 : Int) < xs.length := by omega
  clear L hv
  go_enter Tryd.func4, Tryd.ntmps4
  go_wp2_with (go_at_call 9; refine HA.mono ?_; rintro e w1 ⟨rfl, hb⟩; have B1 : Hid (Below W.heap.size W w1) := hb; clear hb)
  go_ret
  exact ⟨rfl, B1.out⟩

set_option maxRecDepth 100000 in
set_option maxHeartbeats 8000000 in
theorem names_short (s : Nat → Addr) (v : Value) (xs : List Int) (W : World) (L : Laid W s) (hv : Row W v xs) (hl : xs.length ≤ 40) :
    Calls Tryd.prog 4 #[v] W (True1 W) := by
  have HA := awake_true s W L
  have HV : Hid (Row W v xs) := hv
  have HL : Hid _ := L
  obtain ⟨ao, c, rfl⟩ := hv.slice
  have h40 : (xs.length : Int) ≤ 40 := by omega
  have HLn : Hid (xs.length ≤ 40) := hl
  clear L hv hl
  go_enter Tryd.func4, Tryd.ntmps4
  go_wp2_with (go_at_call 9; refine HA.mono ?_; rintro e w1 ⟨rfl, hb⟩; have B1 : Hid (Below W.heap.size W w1) := hb; clear hb; have LL := HL.out.keep B1.out; have g0 := LL.g 0 (by omega); have g1 := LL.g 1 (by omega); have g2 := LL.g 2 (by omega); have g3 := LL.g 3 (by omega); have g4 := LL.g 4 (by omega); have g5 := LL.g 5 (by omega); have g6 := LL.g 6 (by omega); have g7 := LL.g 7 (by omega); have g8 := LL.g 8 (by omega); have g9 := LL.g 9 (by omega); have g10 := LL.g 10 (by omega); clear LL)
  clear g0 g1 g2 g3 g4 g5 g6 g7 g8 g9 g10
  go_loopw [4] (fun i wr => OutRel W s w1.heap.size i wr) (fun i _ => 13 - (intOf i).toNat)
  case atStart =>
    refine ⟨1, rfl, Nat.le_refl _, by omega, ?_, B1.out.alloc B1.out.size _⟩
    intro k h1 h2
    have : k = 1 ∨ k = 2 ∨ k = 3 ∨ k = 4 ∨ k = 5 ∨ k = 6 ∨ k = 7 ∨ k = 8 ∨ k = 9 ∨ k = 10 ∨ k = 11 := by omega
    rcases this with rfl | rfl | rfl | rfl | rfl | rfl | rfl | rfl | rfl | rfl | rfl <;> simp
  case round =>
    obtain ⟨i, rfl, hi1, hi2, hA, hb⟩ := hrel
    have HAr : Hid (Arr wr s w1.heap.size) := hA
    have HB : Hid (Below W.heap.size W wr) := hb
    have HI : Hid (1 ≤ i) := hi1
    clear hA hb hi1
    generalize w1.heap.size = N at *
    by_cases hi : i = 12
    · subst hi
      go_wp2
      go_ret
      exact ⟨rfl, HB.out⟩
    · have hi12 : (i : Int) < 12 := by omega
      have HI2 : Hid (i ≤ 11) := by show i ≤ 11; omega
      have hll : Hid (xs.length ≤ 1000) := by have := HLn.out; show _ ≤ _; omega
      go_wp2_with (go_at_call 10; ((with_reducible refine (wrapped_some s i _ _ _ (HL.out.keep HB.out) HI.out HI2.out (Row.keep HV.out HB.out) hll.out).mono ?_); rintro e w2 ⟨u, rfl, hch, hb⟩; have C2 : Hid (Ch w2 (.iface 71 (.pointer (some (s i)))) xs.reverse u) := hch; have B2 : Hid (Below W.heap.size W w2) := hid_trans HB (hid_size HB) hb; have A2 : Hid (Arr w2 s N) := HAr.out.keep hb; clear hb hch))
      go_loopw [6] (fun k wr => InRel W s N i xs.reverse u k wr) (fun k _ => 13 - (intOf k).toNat)
      case atStart => exact ⟨1, rfl, Nat.le_refl _, by omega, A2.out, B2.out, C2.out⟩
      case round =>
        obtain ⟨k, rfl, hk1, hk2, hA3, hb3, hC3⟩ := hrel
        have A3 : Hid (Arr wr s N) := hA3
        have B3 : Hid (Below W.heap.size W wr) := hb3
        have C3 : Hid (Ch wr (.iface 71 (.pointer (some (s i)))) xs.reverse u) := hC3
        have L3 : Hid (Laid wr s) := HL.out.keep hb3
        clear hA3 hb3 hC3
        by_cases hk : k = 12
        · subst hk
          go_wp2
          go_roundw
          case rel => exact ⟨i + 1, by go_num, by omega, by have := HI2.out; omega, A3.out, B3.out⟩
          case measure => simp [intOf]; omega
        · have hk12 : (k : Int) < 12 := by omega
          have hk0 : (0 : Int) ≤ k := by omega
          have HK1 : Hid (1 ≤ k) := hk1
          have HK2 : Hid (k ≤ 11) := by show k ≤ 11; omega
          have gk := A3.out k hk1 HK2.out
          by_cases he : i = k
          · subst he
            go_wp2
            go_quiet ((first
              | (go_at_call 17; exact quiet_left (Of_some s i _ HI.out HI2.out (L3.out.keep (below_drewN _ _))))
              | (go_at_call 16; (with_reducible (exact quiet_left (Is_yes (L3.out.keep (below_drewN _ _)) HI.out HI2.out (C3.out.keep (below_drewN _ _))))))
              | (go_at_call 16; (with_reducible exact quiet_left (Is_yes (L3.out.keep (below_drewN _ _)) HI.out HI2.out Ch.base)))))
            go_wp2
            go_roundw
            case rel => exact ⟨i + 1, by go_num, by omega, by have := HI2.out; omega, A3.out.keep (below_drewN _ _), B3.out.trans ((below_drewN _ _).mono B3.out.size), C3.out.keep (below_drewN _ _)⟩
            case measure => simp [intOf]; omega
          · have HD : Hid (i ≠ k) := he
            have hf : ((i : Int) == (k : Int)) = false := by simp; omega
            clear he
            go_wp2
            go_quiet ((first
              | (go_at_call 17; exact quiet_left (Of_some s i _ HI.out HI2.out (L3.out.keep (below_drewN _ _))))
              | (go_at_call 16; (with_reducible exact quiet_left (Is_no (L3.out.keep (below_drewN _ _)) HI.out HI2.out HK1.out HK2.out HD.out (C3.out.keep (below_drewN _ _)))))
              | (go_at_call 16; (with_reducible exact quiet_left (Is_no (L3.out.keep (below_drewN _ _)) HI.out HI2.out HK1.out HK2.out HD.out Ch.base)))))
            go_wp2
            go_roundw
            case rel => exact ⟨k + 1, by go_num, by omega, by have := HK2.out; omega, A3.out.keep (below_drewN _ _), B3.out.trans ((below_drewN _ _).mono B3.out.size), C3.out.keep (below_drewN _ _)⟩
            case measure => simp [intOf]; omega

theorem names_any (s : Nat → Addr) (v : Value) (xs : List Int) (W : World) (L : Laid W s) (hv : Row W v xs) : Calls Tryd.prog 4 #[v] W (True1 W) := by
  by_cases hl : 40 < xs.length
  · exact names_long s v xs W L hv hl
  · exact names_short s v xs W L hv (by omega)
end Go.Proofs.YtdojgjainfelcaaDoor
