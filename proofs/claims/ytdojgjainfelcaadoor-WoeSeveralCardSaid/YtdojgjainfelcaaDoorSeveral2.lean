import Derived.Test.YtdojgjainfelcaaDoorSeveral
namespace Go.Proofs.YtdojgjainfelcaaDoor
open Go.RowKit Go.Extern.Stop Go.Stop Go.Extern

set_option maxRecDepth 100000 in
set_option maxHeartbeats 4000000 in
theorem several_long (s : Nat → Addr) (a b : Int) (v : Value) (xs : List Int) (W : World) (L : Laid W s) (hv : Row W v xs) (hl : 20 < xs.length) :
    Calls Tryd.prog 8 #[.int .i64 a, .int .i64 b, v] W (True1 W) := by
  have HA := awake_true s W L
  obtain ⟨ao, c, rfl⟩ := hv.slice
  have h40 : (20 : Int) < xs.length := by omega
  clear L hv
  go_enter Tryd.func8, Tryd.ntmps8
  go_wp2_with (go_at_call 9; refine HA.mono ?_; rintro e w1 ⟨rfl, hb⟩; have B1 : Hid (Below W.heap.size W w1) := hb; clear hb)
  go_ret
  exact ⟨rfl, B1.out⟩

theorem round11 (a : Int) : ∃ A : Nat, wrap64 (1 + wrap64 ((IntKind.u64.wrap a).tmod 11)) = A ∧ 1 ≤ A ∧ A ≤ 11 := by
  have h0 : 0 ≤ IntKind.u64.wrap a := by
    simp [IntKind.wrap, IntKind.signed, IntKind.bits]; omega
  have h1 := Int.tmod_nonneg 11 h0
  have h2 : (IntKind.u64.wrap a).tmod 11 < 11 := Int.tmod_lt_of_pos _ (by omega)
  generalize (IntKind.u64.wrap a).tmod 11 = m at *
  refine ⟨(1 + m).toNat, ?_, by omega, by omega⟩
  unfold wrap64; omega

def J2Post (W : World) (a0 a1 : Addr) (e : Ending) (w' : World) : Prop := ∃ j, e = .returned (.iface 75 (.pointer (some ⟨j, 0, none⟩))) ∧ J2 w' j a0 a1 ∧ Below W.heap.size W w'
theorem Join_ch {b : Nat} {v0 v1 : Value} {W : World} {a0 a1 : Addr} {ps0 ps1 : List Int} (c0 : W.cell? ⟨b, 0, none⟩ = some v0) (c1 : W.cell? ⟨b, 1, none⟩ = some v1)
    (h0 : Ch W (.iface 71 (.pointer (some a0))) ps0 v0) (l0 : ps0.length ≤ 60) (h1 : Ch W (.iface 71 (.pointer (some a1))) ps1 v1) (l1 : ps1.length ≤ 60) (k0 : Blk W a0) (k1 : Blk W a1) :
    Calls Tryd.prog 23 #[.slice (some ⟨b, 0, none⟩) 2 2] W (J2Post W a0 a1) := by
  obtain ⟨T0, x0, rfl⟩ := h0.shape
  obtain ⟨T1, x1, rfl⟩ := h1.shape
  refine (Join_two b T0 T1 x0 x1 W c0 c1).mono fun e w' h => ?_
  obtain ⟨j, bl, e1, hj, hb⟩ := h
  exact ⟨j, e1, ⟨⟨bl, _, _, ps0, ps1, hj, h0.keep hb, l0, h1.keep hb, l1⟩, k0.keep hb, k1.keep hb⟩, hb⟩

theorem Code_j2 {W : World} {s : Nat → Addr} {j : Nat} {a b : Nat} {ps : List Int} {v : Value} (L : Laid W s) (h1 : 1 ≤ a) (h2 : a ≤ 11) (h3 : 1 ≤ b) (h4 : b ≤ 11) (h : J2 W j (s a) (s b)) (hc : Ch W (.iface 75 (.pointer (some ⟨j, 0, none⟩))) ps v) (hl : ps.length ≤ 1) (m : Nat) (hm : m = min a b)
    (his : ∀ (i : Nat) w1, 1 ≤ i → i ≤ 11 → Below W.heap.size W w1 → IsC w1 v (s i) (decide (s a = s i) || decide (s b = s i))) :
    Calls Tryd.prog 12 #[v] W fun e w' => e = .returned (.int .i64 m) ∧ Below W.heap.size W w' := by
  refine Code_hit s v (fun i => decide (a = i) || decide (b = i)) m W L (h.chends hc (by omega)) (fun i hi1 hi2 w1 hb => ?_) (by omega) (by omega) (by simp; omega) (fun i hi1 hi2 => by simp; omega)
  have := his i w1 hi1 hi2 hb
  rwa [L.dec a i h1 h2 hi1 hi2, L.dec b i h3 h4 hi1 hi2] at this
theorem Code_jf {W : World} {s : Nat → Addr} {j : Nat} {a0 : Addr} {b : Nat} (L : Laid W s) (h3 : 1 ≤ b) (h4 : b ≤ 11) (h : J2 W j a0 (s b)) (hne : ∀ i, 1 ≤ i → i ≤ 11 → a0 ≠ s i) :
    Calls Tryd.prog 12 #[.iface 75 (.pointer (some ⟨j, 0, none⟩))] W fun e w' => e = .returned (.int .i64 b) ∧ Below W.heap.size W w' := by
  refine Code_hit s _ (fun i => decide (b = i)) b W L (h.chends (ps := []) Ch.base (by simp)) (fun i hi1 hi2 w1 hb => ?_) h3 h4 (by simp) (fun i hi1 hi2 => by simp; omega)
  have := (h.keep hb).is ((L.blk i hi1 hi2).keep hb)
  rwa [decide_eq_false (hne i hi1 hi2), Bool.false_or, L.dec b i h3 h4 hi1 hi2] at this

theorem Ch.un2 {W : World} {t : Value} {p : Int} {ps : List Int} {e : Value} (h : Ch W t (p :: ps) e) : ∃ b e', e = .iface 40 (.pointer (some ⟨b, 0, none⟩)) ∧ W.cell? ⟨b, 0, none⟩ = some (.int .i64 p) ∧ W.cell? ⟨b, 1, none⟩ = some e' ∧ Ch W t ps e' := by
  cases h with
  | woe hn h0 h1 hz r => exact ⟨_, _, rfl, h0, h1, Chain.mono r (by omega)⟩
/-- A Woe around a joinError. -/
def WJ (W : World) (f j : Nat) : Prop := W.cell? ⟨f, 0, none⟩ = some (.int .i64 5) ∧ W.cell? ⟨f, 1, none⟩ = some (.iface 75 (.pointer (some ⟨j, 0, none⟩))) ∧ Ch W (.iface 75 (.pointer (some ⟨j, 0, none⟩))) [5] (.iface 40 (.pointer (some ⟨f, 0, none⟩)))
theorem WJ.keep {W w' : World} {f j : Nat} (h : WJ W f j) (hb : Below W.heap.size W w') : WJ w' f j :=
  ⟨by rw [hb.cell (p := ⟨f, 0, none⟩) (lt_of_cell h.1)]; exact h.1, by rw [hb.cell (p := ⟨f, 1, none⟩) (lt_of_cell h.2.1)]; exact h.2.1, h.2.2.keep hb⟩
theorem At_wj {W : World} {j : Nat} : Calls Tryd.prog 18 #[.int .i64 5, .iface 75 (.pointer (some ⟨j, 0, none⟩))] W fun e w' => ∃ f, e = .returned (.iface 40 (.pointer (some ⟨f, 0, none⟩))) ∧ WJ w' f j ∧ Below W.heap.size W w' := by
  refine (At_ch (W := W) 5 (Ch.base (t := .iface 75 (.pointer (some ⟨j, 0, none⟩))))).mono fun e w' h => ?_
  obtain ⟨u, e1, hc, hb⟩ := h
  have hc' := hc
  obtain ⟨f, e', rfl, h0, h1, h2⟩ := Ch.un2 hc'
  obtain rfl : e' = .iface 75 (.pointer (some ⟨j, 0, none⟩)) := by cases h2; rfl
  exact ⟨f, e1, ⟨h0, h1, hc⟩, hb⟩
theorem Place_wj {W : World} {s : Nat → Addr} {f j : Nat} {a0 a1 : Addr} (L : Laid W s) (h : WJ W f j) (hj : J2 W j a0 a1) :
    Calls Tryd.prog 11 #[.iface 40 (.pointer (some ⟨f, 0, none⟩))] W fun e w' => e = .returned (.tuple #[.int .i64 5, .bool true]) ∧ Below W.heap.size W w' :=
  Place_hit f 5 s W L h.1 (hj.chends h.2.2 (by simp))
theorem Code_ja {W : World} {s : Nat → Addr} {j a b m : Nat} (hm : m = min a b) (L : Laid W s) (h1 : 1 ≤ a) (h2 : a ≤ 11) (h3 : 1 ≤ b) (h4 : b ≤ 11) (hj : J2 W j (s a) (s b)) :
    Calls Tryd.prog 12 #[.iface 75 (.pointer (some ⟨j, 0, none⟩))] W fun e w' => e = .returned (.int .i64 m) ∧ Below W.heap.size W w' :=
  Code_j2 (ps := []) L h1 h2 h3 h4 hj Ch.base (by simp) _ hm (fun i w1 hi1 hi2 hb => (hj.keep hb).is ((L.blk i hi1 hi2).keep hb))
theorem Code_wja {W : World} {s : Nat → Addr} {f j a b m : Nat} (hm : m = min a b) (L : Laid W s) (h1 : 1 ≤ a) (h2 : a ≤ 11) (h3 : 1 ≤ b) (h4 : b ≤ 11) (h : WJ W f j) (hj : J2 W j (s a) (s b)) :
    Calls Tryd.prog 12 #[.iface 40 (.pointer (some ⟨f, 0, none⟩))] W fun e w' => e = .returned (.int .i64 m) ∧ Below W.heap.size W w' :=
  Code_j2 (ps := [5]) L h1 h2 h3 h4 hj h.2.2 (by simp) _ hm (fun i w1 hi1 hi2 hb => (hj.keep hb).wis (h.keep hb).2.1 ((L.blk i hi1 hi2).keep hb))
theorem Is_wja {W : World} {f j : Nat} {a0 a1 : Addr} (h : WJ W f j) (hj : J2 W j a0 a1) : Calls Tryd.prog 16 #[.iface 40 (.pointer (some ⟨f, 0, none⟩)), .iface 71 (.pointer (some a0))] W fun e w' => e = .returned (.bool true) ∧ W = w' := by
  have := (hj.wis h.2.1 hj.b0).Is
  simpa using this
theorem Is_wjb {W : World} {f j : Nat} {a0 a1 : Addr} (h : WJ W f j) (hj : J2 W j a0 a1) : Calls Tryd.prog 16 #[.iface 40 (.pointer (some ⟨f, 0, none⟩)), .iface 71 (.pointer (some a1))] W fun e w' => e = .returned (.bool true) ∧ W = w' := by
  have := (hj.wis h.2.1 hj.b1).Is
  simpa using this
theorem Join_pair {W : World} {T : TypeId} {x : Value} {a0 a1 : Addr} {ps0 : List Int} (h0 : Ch W (.iface 71 (.pointer (some a0))) ps0 (.iface T x)) (l0 : ps0.length ≤ 60) (k0 : Blk W a0) (k1 : Blk W a1) :
    Calls Tryd.prog 23 #[.slice (some ⟨W.heap.size, 0, none⟩) 2 2] (W.alloc (.cells #[.iface T x, .iface 71 (.pointer (some a1))] 25)) fun e w' => ∃ j, e = .returned (.iface 75 (.pointer (some ⟨j, 0, none⟩))) ∧ J2 w' j a0 a1 ∧ Below W.heap.size W w' := by
  have b1 : Below W.heap.size W (W.alloc (.cells #[.iface T x, .iface 71 (.pointer (some a1))] 25)) := (Below.refl _ _).alloc (Nat.le_refl _) _
  refine (Join_ch (W := W.alloc (.cells #[.iface T x, .iface 71 (.pointer (some a1))] 25)) (by simp) (by simp) (h0.keep b1) l0 Ch.base (by simp) (k0.keep b1) (k1.keep b1)).mono fun e w' h => ?_
  obtain ⟨j, e1, hj, hb⟩ := h
  exact ⟨j, e1, hj, b1.trans (hb.mono b1.size)⟩

set_option maxRecDepth 100000 in
set_option maxHeartbeats 4000000 in
theorem several_short (M : Nat) (s : Nat → Addr) (a b : Int) (v : Value) (xs : List Int) (W : World) (L : Laid W s) (hv : Row W v xs) (hl : xs.length ≤ 20) (A B : Nat) (eA : wrap64 (1 + wrap64 ((IntKind.u64.wrap a).tmod 11)) = A) (eB : wrap64 (1 + wrap64 ((IntKind.u64.wrap b).tmod 11)) = B) (hA1 : 1 ≤ A) (hA2 : A ≤ 11) (hB1 : 1 ≤ B) (hB2 : B ≤ 11) (hle : (A ≤ B ∧ A = M) ∨ (B < A ∧ B = M)) :
    Calls Tryd.prog 8 #[.int .i64 a, .int .i64 b, v] W (True1 W) := by
  have HA := awake_true s W L
  have HV : Hid (Row W v xs) := hv
  have HL : Hid _ := L
  obtain ⟨ao, c, rfl⟩ := hv.slice
  have h40 : (xs.length : Int) ≤ 20 := by omega
  have HM : Hid (M = min A B) := by show _ = _; omega
  have A1 : Hid (1 ≤ A) := hA1
  have A2 : Hid (A ≤ 11) := hA2
  have B1 : Hid (1 ≤ B) := hB1
  have B2 : Hid (B ≤ 11) := hB2
  have hll : Hid (xs.length ≤ 1000 ∧ xs.reverse.length ≤ 60) := by show _ ∧ _; rw [List.length_reverse]; omega
  clear L hv hA1 hA2 hB1 hB2 hl
  rcases hle with ⟨hle, rfl⟩ | ⟨hle, rfl⟩
  all_goals
    first
      | (have hmi : min (A : Int) (B : Int) = A := (by omega); have hn : A ≤ B := (by omega); have hn2 : (A : Int) ≤ B := (by omega))
      | (have hmi : min (A : Int) (B : Int) = B := (by omega); have hn : ¬ A ≤ B := (by omega); have hn2 : ¬ (A : Int) ≤ B := (by omega))
    clear hle
    go_enter Tryd.func8, Tryd.ntmps8
    go_wp2_with (first
      | (go_at_call 9; refine HA.mono ?_; rintro e w1 ⟨rfl, hb⟩; have C1 : Hid (Below W.heap.size W w1) := hb; clear hb)
      | (go_at_call 10; ((with_reducible refine (wrapped_some s A _ xs _ (HL.out.keep C1.out) A1.out A2.out (Row.keep HV.out C1.out) hll.out.1).mono ?_); rintro e w2 ⟨u, rfl, hch, hb⟩; obtain ⟨T, x, rfl⟩ := hch.shape; have D2 : Hid (Ch w2 (.iface 71 (.pointer (some (s A)))) xs.reverse (.iface T x)) := hch; have C2 : Hid (Below W.heap.size W w2) := hid_trans C1 (hid_size C1) hb; have L2 : Hid (Laid w2 s) := HL.out.keep C2.out; clear hb hch))
      | (go_at_call 17; ((with_reducible refine (Of_some s B _ B1.out B2.out L2.out).mono ?_); rintro e w3 ⟨rfl, rfl⟩))
      | (go_at_call 23; ((with_reducible refine (Join_pair D2.out hll.out.2 (L2.out.blk A A1.out A2.out) (L2.out.blk B B1.out B2.out)).mono ?_); rintro e w3 ⟨j, rfl, hj, hb⟩; have J3 : Hid (J2 w3 j (s A) (s B)) := hj; have C3 : Hid (Below W.heap.size W w3) := hid_trans C2 (hid_size C2) hb; clear hb hj))
      | (go_at_call 18; ((with_reducible refine At_wj.mono ?_); rintro e w4 ⟨f, rfl, hf, hb⟩; have F4 : Hid (WJ w4 f j) := hf; have J4 : Hid (J2 w4 j (s A) (s B)) := J3.out.keep hb; have C4 : Hid (Below W.heap.size W w4) := hid_trans C3 (hid_size C3) hb; clear hb hf))
      | (go_at_call 11; ((with_reducible refine (Place_wj (HL.out.keep C4.out) F4.out J4.out).mono ?_); rintro e w5 ⟨rfl, hb⟩; have F5 : Hid (WJ w5 f j) := F4.out.keep hb; have J5 : Hid (J2 w5 j (s A) (s B)) := J4.out.keep hb; have C5 : Hid (Below W.heap.size W w5) := hid_trans C4 (hid_size C4) hb; have L5 : Hid (Laid w5 s) := HL.out.keep C5.out; clear hb))
      | (go_at_call 12; ((with_reducible refine (Code_ja HM.out L5.out A1.out A2.out B1.out B2.out J5.out).mono ?_); rintro e w6 ⟨rfl, hb⟩; have F6 : Hid (WJ w6 f j) := F5.out.keep hb; have J6 : Hid (J2 w6 j (s A) (s B)) := J5.out.keep hb; have C6 : Hid (Below W.heap.size W w6) := hid_trans C5 (hid_size C5) hb; have L6 : Hid (Laid w6 s) := L5.out.keep hb; clear hb))
      | (go_at_call 12; ((with_reducible refine (Code_wja HM.out L6.out A1.out A2.out B1.out B2.out F6.out J6.out).mono ?_); rintro e w7 ⟨rfl, hb⟩; have F7 : Hid (WJ w7 f j) := F6.out.keep hb; have J7 : Hid (J2 w7 j (s A) (s B)) := J6.out.keep hb; have C7 : Hid (Below W.heap.size W w7) := hid_trans C6 (hid_size C6) hb; have L7 : Hid (Laid w7 s) := L6.out.keep hb; clear hb))
      | (go_at_call 17; ((with_reducible refine (Of_some s A _ A1.out A2.out L7.out).mono ?_); rintro e w8 ⟨rfl, rfl⟩))
      | (go_at_call 17; ((with_reducible refine (Of_some s B _ B1.out B2.out L7.out).mono ?_); rintro e w8 ⟨rfl, rfl⟩))
      | (go_at_call 16; ((with_reducible refine (Is_wja F7.out J7.out).mono ?_); rintro e w8 ⟨rfl, rfl⟩))
      | (go_at_call 16; ((with_reducible refine (Is_wjb F7.out J7.out).mono ?_); rintro e w8 ⟨rfl, rfl⟩))
      | (go_at_call 22; ((with_reducible refine (New_blk _ _).mono ?_); rintro e w8 ⟨rfl, hb, hk⟩; have K8 : Hid (Blk w8 ⟨w7.heap.size, 0, none⟩) := hk; have C8 : Hid (Below W.heap.size W w8) := hid_trans C7 (hid_size C7) hb; have L8 : Hid (Laid w8 s) := L7.out.keep hb; clear hb hk))
      | (go_at_call 17; ((with_reducible refine (Of_some s B _ B1.out B2.out L8.out).mono ?_); rintro e w9 ⟨rfl, rfl⟩))
      | (go_at_call 23; ((with_reducible refine (Join_pair (ps0 := []) (Ch.base (t := .iface 71 (.pointer (some ⟨w7.heap.size, 0, none⟩)))) (Nat.zero_le _) K8.out (L8.out.blk B B1.out B2.out)).mono ?_); rintro e w9 ⟨j9, rfl, hj, hb⟩; have J9 : Hid (J2 w9 j9 ⟨w7.heap.size, 0, none⟩ (s B)) := hj; have C9 : Hid (Below W.heap.size W w9) := hid_trans C8 (hid_size C8) hb; have L9 : Hid (Laid w9 s) := L8.out.keep hb; have N9 : Hid (∀ i, 1 ≤ i → i ≤ 11 → (⟨w7.heap.size, 0, none⟩ : Addr) ≠ s i) := (fun i h1 h2 e => by have := (L7.out.blk i h1 h2).lt; rw [← e] at this; exact Nat.lt_irrefl _ this); clear hb hj))
      | (go_at_call 12; ((with_reducible refine (Code_jf L9.out B1.out B2.out J9.out N9.out).mono ?_); rintro e w10 ⟨rfl, hb⟩; have C10 : Hid (Below W.heap.size W w10) := hid_trans C9 (hid_size C9) hb; clear hb)))
    go_ret
    exact ⟨rfl, C10.out⟩

theorem several_any (s : Nat → Addr) (a b : Int) (v : Value) (xs : List Int) (W : World) (L : Laid W s) (hv : Row W v xs) :
    Calls Tryd.prog 8 #[.int .i64 a, .int .i64 b, v] W (True1 W) := by
  by_cases hl : 20 < xs.length
  · exact several_long s a b v xs W L hv hl
  obtain ⟨A, eA, hA1, hA2⟩ := round11 a
  obtain ⟨B, eB, hB1, hB2⟩ := round11 b
  rcases Nat.lt_or_ge B A with h | h
  rotate_left
  · exact several_short A s a b v xs W L hv (by omega) A B eA eB hA1 hA2 hB1 hB2 (.inl ⟨h, rfl⟩)
  · exact several_short B s a b v xs W L hv (by omega) A B eA eB hA1 hA2 hB1 hB2 (.inr ⟨h, rfl⟩)
end Go.Proofs.YtdojgjainfelcaaDoor
