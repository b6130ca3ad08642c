import Derived.Test.YtdojgjainfelcaaDoorN
import Derived.Deep.QuietTactic
import Derived.BigQuiet
namespace Go.Proofs.YtdojgjainfelcaaDoor
open Go.RowKit Go.Extern.Stop Go.Stop Go.Extern

/-- The slice v reads as the list xs. -/
def Row (w : World) (v : Value) (xs : List Int) : Prop :=
  ((∃ ao cap, v = .slice ao 0 cap) ∧ xs = []) ∨ ∃ b off cap, v = .slice (some ⟨b, off, none⟩) xs.length cap ∧ b < w.heap.size ∧ xs.length ≤ cap ∧ ∀ i (h : i < xs.length), w.cell? ⟨b, off + i, none⟩ = some (.int .i64 xs[i])
theorem Row.keep {w w' : World} {v : Value} {xs : List Int} (h : Row w v xs) (hb : Below w.heap.size w w') : Row w' v xs := by
  rcases h with h | ⟨b, off, cap, h1, h2, h3, h4⟩
  · exact .inl h
  · exact .inr ⟨b, off, cap, h1, Nat.lt_of_lt_of_le h2 hb.size, h3, fun i hi => by rw [hb.cell (p := ⟨b, off + i, none⟩) h2]; exact h4 i hi⟩
theorem Row.own {w : World} {base : Nat} {v : Value} {xs : List Int} (h : w.ownsRow base 3 1 v xs.length (xs.map (Value.int .i64))) : Row w v xs := by
  rcases h.2 with ⟨hn, h0⟩ | ⟨g, cap, cur, rfl, hg, hb, hcap, _, hsz, ht⟩
  · exact .inl ⟨⟨_, _, hn⟩, List.length_eq_zero_iff.1 h0⟩
  · refine .inr ⟨g, 0, cap, rfl, (Array.getElem?_eq_some_iff.1 hb).1, hcap, fun i hi => ?_⟩
    have e : (xs.map (Value.int .i64))[i]? = some (.int .i64 xs[i]) := by simp [hi]
    rw [← ht, List.getElem?_take_of_lt (by omega)] at e
    simp only [World.cell?, hb, Nat.zero_add]
    simpa using e

set_option maxHeartbeats 2000000 in
theorem Ints_true (u v : Value) (xs : List Int) (W : World) (hu : Row W u xs) (hv : Row W v xs) (hl : xs.length ≤ 1000) :
    Calls Tryd.prog 14 #[u, v] W fun e w' => e = .returned (.bool true) ∧ Below W.heap.size W w' := by
  have key : ∃ ao bo c d, u = .slice ao xs.length c ∧ v = .slice bo xs.length d := by
    rcases hu with ⟨⟨_, _, rfl⟩, rfl⟩ | ⟨b, off, cap, rfl, _⟩ <;> rcases hv with ⟨⟨_, _, rfl⟩, h⟩ | ⟨b', off', cap', rfl, _⟩
    · exact ⟨_, _, _, _, rfl, rfl⟩
    · exact ⟨_, _, _, _, rfl, rfl⟩
    · subst h; exact ⟨_, _, _, _, rfl, rfl⟩
    · exact ⟨_, _, _, _, rfl, rfl⟩
  obtain ⟨ao, bo, c, d, rfl, rfl⟩ := key
  have HU : Hid (Row W (.slice ao xs.length c) xs) := hu
  have HV : Hid (Row W (.slice bo xs.length d) xs) := hv
  clear hu hv
  go_enter Tryd.func14, Tryd.ntmps14
  go_wp2
  go_loopw [5] (fun i wr => ∃ k : Nat, i = .int .i64 k ∧ k ≤ xs.length ∧ Below W.heap.size W wr) (fun i _ => xs.length - (intOf i).toNat)
  case atStart => exact ⟨0, rfl, Nat.zero_le _, Below.refl _ _⟩
  case round =>
    obtain ⟨k, rfl, hk, hb⟩ := hrel
    have Hb : Hid _ := hb
    clear hb
    by_cases hlt : k < xs.length
    · have hu := Row.keep HU.out Hb.out
      have hv := Row.keep HV.out Hb.out
      rcases hu with ⟨_, rfl⟩ | ⟨b, off, cap, e1, _, _, h4⟩
      · simp at hlt
      rcases hv with ⟨_, rfl⟩ | ⟨b', off', cap', e2, _, _, h4'⟩
      · simp at hlt
      have g1 := h4 k hlt
      have g2 := h4' k hlt
      cases e1
      cases e2
      clear h4 h4'
      go_wp2
      have hlt' : (k : Int) < xs.length := by omega
      have hk0 : (0 : Int) ≤ k := by omega
      go_quiet (fail)
      go_wp2
      go_roundw
      case rel => exact ⟨k + 1, by go_num, by omega, Hb.out.trans ⟨rfl, rfl, rfl, Nat.le_refl _, fun _ _ => rfl⟩⟩
      case measure => simp [intOf]; omega
    · have : k = xs.length := by omega
      subst this
      go_wp2
      go_ret
      exact ⟨rfl, Hb.out⟩

def BackRel (W : World) (xs : List Int) (v i : Value) (wr : World) : Prop :=
  ∃ k, k ≤ xs.length ∧ (∃ m : Int, i = .int .i64 m ∧ m = (k : Int) - 1) ∧ wr.ownsRow W.heap.size 3 1 v (xs.drop k).reverse.length ((xs.drop k).reverse.map (Value.int .i64)) ∧ Below W.heap.size W wr
theorem drop_rev (xs : List Int) (k : Nat) (h : k < xs.length) : (xs.drop k).reverse = (xs.drop (k + 1)).reverse ++ [xs[k]] := by
  rw [List.drop_eq_getElem_cons h, List.reverse_cons]
theorem back_step {W wr w1 : World} {xs : List Int} {j : Nat} {v v' : Value} (hj : j < xs.length) (hown : wr.ownsRow W.heap.size 3 1 v (xs.drop (j + 1)).reverse.length ((xs.drop (j + 1)).reverse.map (Value.int .i64))) (hb : Below W.heap.size W wr)
    (hown' : w1.ownsRow W.heap.size 3 1 v' (xs.length - (j + 1) + 1) ((List.drop (j + 1) (xs.map (Value.int .i64))).reverse ++ [.int .i64 xs[j]])) (hg : (wr.alloc (.cells #[.int .i64 xs[j]] 3)).grownBy w1 v.ownBlock) :
    w1.ownsRow W.heap.size 3 1 v' (xs.drop j).reverse.length ((xs.drop j).reverse.map (Value.int .i64)) ∧ Below W.heap.size W w1 := by
  refine ⟨?_, (hb.alloc hb.size _).grown hg (by rw [World.size_alloc]; have := hb.size; omega) (fun k hk => (hown.lt k hk).1)⟩
  have e : (xs.drop j).reverse.length = (xs.drop (j + 1)).reverse.length + 1 := by simp; omega
  rw [e, drop_rev xs j hj, List.map_append]
  simpa using hown'

set_option maxHeartbeats 2000000 in
theorem Back_any (v : Value) (xs : List Int) (W : World) (hv : Row W v xs) (hl : xs.length ≤ 1000) :
    Calls Tryd.prog 15 #[v] W fun e w' => ∃ u, e = .returned u ∧ Row w' u xs.reverse ∧ Below W.heap.size W w' := by
  have key : ∃ ao c, v = .slice ao xs.length c := by
    rcases hv with ⟨⟨_, _, rfl⟩, rfl⟩ | ⟨b, off, cap, rfl, _⟩
    · exact ⟨_, _, rfl⟩
    · exact ⟨_, _, rfl⟩
  obtain ⟨ao, c, rfl⟩ := key
  have HV : Hid (Row W (.slice ao xs.length c) xs) := hv
  clear hv
  obtain ⟨i0, hi, hz0, hz1, hz2⟩ := info_parts info3
  go_enter Tryd.func15, Tryd.ntmps15
  go_wp2
  go_loopw [3, 4] (fun v i wr => BackRel W xs v i wr) (fun _ i _ => (intOf i + 1).toNat)
  case atStart => exact ⟨xs.length, Nat.le_refl _, ⟨_, rfl, rfl⟩, by
    rw [List.drop_length]
    exact World.ownsRow_made W #[] 0 (Nat.le_refl _) (by unfold maxLen; omega) rfl, (Below.refl _ _).alloc (Nat.le_refl _) _⟩
  case round =>
    obtain ⟨k, hk, ⟨m, rfl, hm⟩, hown, hb⟩ := hrel
    cases k with
    | zero =>
      obtain rfl : m = -1 := by simpa using hm
      have HB : Hid _ := hb
      have HO : Hid _ := hown
      clear hm hown hb
      go_wp2
      go_ret
      have ho := HO.out
      rw [List.drop_zero] at ho
      exact ⟨_, rfl, Row.own ho, HB.out⟩
    | succ j =>
      obtain rfl : m = j := by rw [hm]; omega
      have HB : Hid _ := hb
      have HO : Hid _ := hown
      have hlt : j < xs.length := by omega
      rcases Row.keep HV.out hb with ⟨_, rfl⟩ | ⟨b, off, cap, e1, _, _, h4⟩
      · simp at hlt
      have g1 := h4 j hlt
      cases e1
      have HO2 : Hid _ := hown.alloc (.cells #[.int .i64 xs[j]] 3)
      have hlt' : (j : Int) < xs.length := by omega
      have hk0 : (0 : Int) ≤ j := by omega
      have hsz := hb.size
      clear hm hb hown h4
      go_wp2_with (at_builtin; refine wpList_append_own _ rfl _ _ 22 rfl W.heap.size 3 i0 (.int .i64 0) 1 8 Tryd.underlying22 hi hz0 hz1 hz2 rfl (by decide) _ _ _ rfl HO2.out ⟨wr.heap.size, 0, none⟩ 1 1 [.int .i64 xs[j]] rfl rfl ?c1 ?c2 ?c3 ?c4 ?c5 ?_)
      case c1 =>
        intro j u hj
        match j, hj with
        | 0, hj => simp at hj; subst hj; simp [Addr.add]
      case c2 => intro u hu; simp at hu; subst hu; rfl
      case c3 => unfold maxLen; simp; omega
      case c4 => simp; omega
      case c5 => rw [World.size_alloc]; omega
      intro v' w1 hown' hgrow _
      have R : Hid _ := back_step hlt HO.out HB.out hown' hgrow
      clear hown' hgrow
      go_wp2
      go_roundw
      case rel => exact ⟨j, by omega, ⟨_, rfl, rfl⟩, R.out.1, R.out.2⟩
      case measure => simp [intOf]
end Go.Proofs.YtdojgjainfelcaaDoor
