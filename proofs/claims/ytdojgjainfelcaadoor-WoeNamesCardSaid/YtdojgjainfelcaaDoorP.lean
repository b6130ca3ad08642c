import Derived.Test.YtdojgjainfelcaaDoorO
namespace Go.Proofs.YtdojgjainfelcaaDoor
open Go.RowKit Go.Extern.Stop Go.Stop Go.Extern

theorem Chain.mono {w : World} {t e : Value} {n n' : Nat} {ps : List Int} (h : Chain w t n ps e) (hn : n ≤ n') : Chain w t n' ps e := by
  cases h with
  | base => exact .base _
  | woe hlt h0 h1 hz r => exact .woe (by omega) h0 h1 hz r
/-- A chain in the world w, its blocks below the heap's end. -/
def Ch (w : World) (t : Value) (ps : List Int) (e : Value) : Prop := Chain w t w.heap.size ps e
theorem Ch.base {w : World} {t : Value} : Ch w t [] t := Chain.base _
theorem Ch.keep {w w' : World} {t e : Value} {ps : List Int} (h : Ch w t ps e) (hb : Below w.heap.size w w') : Ch w' t ps e :=
  (Chain.keep h hb (Nat.le_refl _)).mono hb.size
theorem Ch.push {w : World} {t e : Value} {ps : List Int} (p : Int) (h : Ch w t ps e) : Ch (w.alloc (.cells #[.int .i64 p, e] 44)) t (p :: ps) (.iface 40 (.pointer (some ⟨w.heap.size, 0, none⟩))) := by
  have hb : Below w.heap.size w (w.alloc (.cells #[.int .i64 p, e] 44)) := (Below.refl _ _).alloc (Nat.le_refl _) _
  refine .woe (T := 44) (by rw [World.size_alloc]; omega) (by simp) (by simp) ?_ (Chain.keep h hb (Nat.le_refl _))
  show (w.heap.push _)[w.heap.size]? = _
  simp
theorem Ch.shape {w : World} {T : TypeId} {x e : Value} {ps : List Int} (h : Ch w (.iface T x) ps e) : ∃ T x, e = .iface T x := Chain.shape h ⟨_, _, rfl⟩

theorem take_rev (xs : List Int) (k : Nat) (h : k < xs.length) : (xs.take (k + 1)).reverse = xs[k] :: (xs.take k).reverse := by
  rw [List.take_succ_eq_append_getElem h, List.reverse_append]; rfl

def WrapPost (W : World) (t : Value) (ps : List Int) (e : Ending) (w' : World) : Prop := ∃ u, e = .returned u ∧ Ch w' t ps u ∧ Below W.heap.size W w'
def WrapRel (W : World) (t : Value) (xs : List Int) (e i : Value) (wr : World) : Prop :=
  ∃ k : Nat, i = .int .i64 k ∧ k ≤ xs.length ∧ Ch wr t (xs.take k).reverse e ∧ Below W.heap.size W wr

set_option maxHeartbeats 2000000 in
theorem wrapped_some (s : Nat → Addr) (c : Nat) (v : Value) (xs : List Int) (W : World) (L : Laid W s) (h1 : 1 ≤ c) (h2 : c ≤ 11) (hv : Row W v xs) (hl : xs.length ≤ 1000) :
    Calls Tryd.prog 10 #[.int .i64 c, v] W (WrapPost W (.iface 71 (.pointer (some (s c)))) xs.reverse) := by
  have key : ∃ ao c, v = .slice ao xs.length c := by
    rcases hv with ⟨⟨_, _, rfl⟩, rfl⟩ | ⟨b, off, cap, rfl, _⟩
    · exact ⟨_, _, rfl⟩
    · exact ⟨_, _, rfl⟩
  obtain ⟨ao, cp, rfl⟩ := key
  have HV : Hid (Row W (.slice ao xs.length cp) xs) := hv
  have ho := Of_some s c W h1 h2 L
  clear hv h1 h2 L
  go_enter Tryd.func10, Tryd.ntmps10
  go_wp2_with (go_at_call 17; refine ho.mono ?_; rintro e w1 ⟨rfl, rfl⟩)
  go_loopw [5, 6] (fun e i wr => WrapRel W (.iface 71 (.pointer (some (s c)))) xs e i wr) (fun _ i _ => xs.length - (intOf i).toNat)
  case atStart => exact ⟨0, rfl, Nat.zero_le _, by rw [List.take_zero]; exact Ch.base, Below.refl _ _⟩
  case round =>
    obtain ⟨k, rfl, hk, hC, hb⟩ := hrel
    obtain ⟨T, x, rfl⟩ := hC.shape
    have HC : Hid (Ch wr (.iface 71 (.pointer (some (s c)))) (xs.take k).reverse (.iface T x)) := hC
    have HB : Hid _ := hb
    clear hC ho
    by_cases hlt : k < xs.length
    · rcases Row.keep HV.out hb with ⟨_, rfl⟩ | ⟨b, off, cap, e1, _, _, h4⟩
      · simp at hlt
      have g1 := h4 k hlt
      cases e1
      clear h4 hb
      have hlt' : (k : Int) < xs.length := by omega
      have hk0 : (0 : Int) ≤ k := by omega
      go_wp2_with (go_at_call 18; refine (At_some _ _ _ _).mono ?_; rintro e w1 ⟨rfl, rfl⟩)
      go_roundw
      case rel => exact ⟨k + 1, by go_num, by omega, by rw [take_rev xs k hlt]; exact HC.out.push _, HB.out.alloc HB.out.size _⟩
      case measure => simp [intOf]; omega
    · obtain rfl : k = xs.length := by omega
      clear hb
      go_wp2
      go_ret
      have := HC.out
      rw [List.take_length] at this
      exact ⟨_, rfl, this, HB.out⟩

set_option maxHeartbeats 2000000 in
theorem wrapped_none (c : Int) (v : Value) (xs : List Int) (W : World) (h : c < 1 ∨ 11 < c) (hv : Row W v xs) (hl : xs.length ≤ 1000) :
    Calls Tryd.prog 10 #[.int .i64 c, v] W fun e w' => e = .returned .nilIface ∧ Below W.heap.size W w' := by
  have key : ∃ ao c, v = .slice ao xs.length c := by
    rcases hv with ⟨⟨_, _, rfl⟩, rfl⟩ | ⟨b, off, cap, rfl, _⟩
    · exact ⟨_, _, rfl⟩
    · exact ⟨_, _, rfl⟩
  obtain ⟨ao, cp, rfl⟩ := key
  have HV : Hid (Row W (.slice ao xs.length cp) xs) := hv
  have ho := Of_none c W h
  clear hv h
  go_enter Tryd.func10, Tryd.ntmps10
  go_wp2_with (go_at_call 17; refine ho.mono ?_; rintro e w1 ⟨rfl, rfl⟩)
  go_loopw [5, 6] (fun e i wr => ∃ k : Nat, i = .int .i64 k ∧ k ≤ xs.length ∧ e = .nilIface ∧ Below W.heap.size W wr) (fun _ i _ => xs.length - (intOf i).toNat)
  case atStart => exact ⟨0, rfl, Nat.zero_le _, rfl, Below.refl _ _⟩
  case round =>
    obtain ⟨k, rfl, hk, rfl, hb⟩ := hrel
    have HB : Hid _ := hb
    clear ho
    by_cases hlt : k < xs.length
    · rcases Row.keep HV.out hb with ⟨_, rfl⟩ | ⟨b, off, cap, e1, _, _, h4⟩
      · simp at hlt
      have g1 := h4 k hlt
      cases e1
      clear h4 hb
      have hlt' : (k : Int) < xs.length := by omega
      have hk0 : (0 : Int) ≤ k := by omega
      go_wp2_with (go_at_call 18; refine (At_nil _ _).mono ?_; rintro e w1 ⟨rfl, rfl⟩)
      go_roundw
      case rel => exact ⟨k + 1, by go_num, by omega, rfl, HB.out⟩
      case measure => simp [intOf]; omega
    · obtain rfl : k = xs.length := by omega
      clear hb
      go_wp2
      go_ret
      exact ⟨rfl, HB.out⟩

theorem New_any (x : ByteArray) (w : World) : Calls Tryd.prog 22 #[.string x] w fun e w' => e = .returned (.iface 71 (.pointer (some ⟨w.heap.size, 0, none⟩))) ∧ w' = w.alloc (.cells #[.string x] 73) := by
  go_enter Tryd.func22, Tryd.ntmps22
  go_wp2
  go_ret
  exact ⟨rfl, rfl⟩
theorem Path_nil (W : World) : Calls Tryd.prog 13 #[.nilIface] W fun e w' => e = .returned (.slice none 0 0) ∧ Below W.heap.size W w' := by
  have hmm := @run_makeMap Tryd.prog
  go_enter Tryd.func13, Tryd.ntmps13
  go_wp2
  refine wp_loop_rounds 1 ?_
  rw [rounds_succ]
  go_wp2
  go_ret
  exact ⟨rfl, (Below.refl _ _).alloc (Nat.le_refl _) _⟩
end Go.Proofs.YtdojgjainfelcaaDoor
