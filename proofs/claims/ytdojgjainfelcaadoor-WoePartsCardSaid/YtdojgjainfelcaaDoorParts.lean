import Derived.Test.YtdojgjainfelcaaDoorNames
import Derived.Deep.RegionWith
namespace Go.Proofs.YtdojgjainfelcaaDoor
open Go.RowKit Go.Extern.Stop Go.Stop Go.Extern

set_option maxRecDepth 100000 in
set_option maxHeartbeats 4000000 in
theorem parts_long (s : Nat → Addr) (code : Int) (v u : Value) (xs ys : List Int) (W : World) (L : Laid W s) (hv : Row W v xs) (hu : Row W u ys) (hl : 40 < xs.length ∨ 40 < ys.length) :
    Calls Tryd.prog 5 #[.int .i64 code, v, u] W (True1 W) := by
  have HA := awake_true s W L
  obtain ⟨ao, c, rfl⟩ := hv.slice
  obtain ⟨bo, d, rfl⟩ := hu.slice
  clear L hv hu
  by_cases h40 : (40 : Int) < xs.length
  · clear hl
    go_enter Tryd.func5, Tryd.ntmps5
    go_wp2_with (go_at_call 9; refine HA.mono ?_; rintro e w1 ⟨rfl, hb⟩; have B1 : Hid (Below W.heap.size W w1) := hb; clear hb)
    go_ret
    exact ⟨rfl, B1.out⟩
  · have h41 : (40 : Int) < ys.length := by omega
    clear hl
    go_enter Tryd.func5, Tryd.ntmps5
    go_wp2_with (go_at_call 9; refine HA.mono ?_; rintro e w1 ⟨rfl, hb⟩; have B1 : Hid (Below W.heap.size W w1) := hb; clear hb)
    go_ret
    exact ⟨rfl, B1.out⟩

set_option maxRecDepth 100000 in
set_option maxHeartbeats 4000000 in
theorem parts_none (s : Nat → Addr) (code : Int) (v u : Value) (xs ys : List Int) (W : World) (L : Laid W s) (hv : Row W v xs) (hu : Row W u ys) (hl : xs.length ≤ 40) (hl2 : ys.length ≤ 40) (hc : code < 1 ∨ 11 < code) :
    Calls Tryd.prog 5 #[.int .i64 code, v, u] W (True1 W) := by
  have HA := awake_true s W L
  have HV : Hid (Row W v xs) := hv
  have HU : Hid (Row W u ys) := hu
  obtain ⟨ao, c, rfl⟩ := hv.slice
  obtain ⟨bo, d, rfl⟩ := hu.slice
  have h40 : (xs.length : Int) ≤ 40 := by omega
  have h41 : (ys.length : Int) ≤ 40 := by omega
  have HC : Hid _ := hc
  have hll : Hid (xs.length ≤ 1000) := by show _ ≤ _; omega
  clear L hv hu hc
  go_enter Tryd.func5, Tryd.ntmps5
  go_wp2_with (first
    | (go_at_call 9; refine HA.mono ?_; rintro e w1 ⟨rfl, hb⟩; have B1 : Hid (Below W.heap.size W w1) := hb; clear hb)
    | (go_at_call 10; refine (wrapped_none code _ xs _ HC.out (Row.keep HV.out B1.out) hll.out).mono ?_; rintro e w2 ⟨rfl, hb⟩; have B2 : Hid (Below W.heap.size W w2) := hid_trans B1 (hid_size B1) hb; clear hb))
  go_loopw [8, 9] (fun e i wr => ∃ k : Nat, i = .int .i64 k ∧ k ≤ ys.length ∧ e = .nilIface ∧ Below W.heap.size W wr) (fun _ i _ => ys.length - (intOf i).toNat)
  case atStart => exact ⟨0, rfl, Nat.zero_le _, rfl, B2.out⟩
  case round =>
    obtain ⟨k, rfl, hk, rfl, hb⟩ := hrel
    have HB : Hid (Below W.heap.size W wr) := hb
    by_cases hlt : k < ys.length
    · rcases Row.keep HU.out hb with ⟨_, rfl⟩ | ⟨b, off, cap, e1, _, _, h4⟩
      · simp at hlt
      have g1 := h4 k hlt
      cases e1
      clear h4 hb
      have hlt' : (k : Int) < ys.length := by omega
      have hk0 : (0 : Int) ≤ k := by omega
      go_wp2_with (go_at_call 18; refine (At_nil _ _).mono ?_; rintro e w3 ⟨rfl, rfl⟩)
      go_roundw
      case rel => exact ⟨k + 1, by go_num, by omega, rfl, HB.out⟩
      case measure => simp [intOf]; omega
    · obtain rfl : k = ys.length := by omega
      clear hb
      go_wp2
      go_ret
      exact ⟨rfl, HB.out⟩

theorem below_drew (W : World) : Below W.heap.size W W.drew := (Below.refl _ _).drew
theorem Row.drop {w : World} {g off cap : Nat} {l : List Int} (k : Nat) (h : Row w (.slice (some ⟨g, off, none⟩) l.length cap) l) (hk : k ≤ l.length) (a : Addr) (ha : k < l.length → a = ⟨g, off + k, none⟩) : Row w (.slice (some a) (l.length - k) (cap - k)) (l.drop k) := by
  by_cases hlt : k < l.length
  · rcases h with ⟨_, rfl⟩ | ⟨b, o, c, e, h2, h3, h4⟩
    · simp at hlt
    cases e
    rw [ha hlt]
    refine .inr ⟨g, off + k, cap - k, by rw [List.length_drop], h2, by rw [List.length_drop]; omega, fun i hi => ?_⟩
    rw [List.length_drop] at hi
    have := h4 (k + i) (by omega)
    rw [List.getElem_drop, Nat.add_assoc]; exact this
  · have e : k = l.length := by omega
    subst e
    exact .inl ⟨⟨_, _, by rw [Nat.sub_self]⟩, List.drop_length⟩
theorem Row.take {w : World} {g off cap : Nat} {l : List Int} (k : Nat) (h : Row w (.slice (some ⟨g, off, none⟩) l.length cap) l) (hk : k ≤ l.length) : Row w (.slice (some ⟨g, off, none⟩) k cap) (l.take k) := by
  rcases h with ⟨_, rfl⟩ | ⟨b, o, c, e, h2, h3, h4⟩
  · obtain rfl : k = 0 := by simpa using hk
    exact .inl ⟨⟨_, _, rfl⟩, rfl⟩
  cases e
  have e1 : (l.take k).length = k := by rw [List.length_take]; omega
  refine .inr ⟨g, off, cap, by rw [e1], h2, by omega, fun i hi => ?_⟩
  rw [e1] at hi
  have := h4 i (by omega)
  rw [List.getElem_take]; exact this

theorem row_nil (w : World) : Row w (.slice none 0 0) [] := .inl ⟨⟨_, _, rfl⟩, rfl⟩
theorem parts_drop {w : World} {g cap : Nat} {xs ys : List Int} (h : Row w (.slice (some ⟨g, 0, none⟩) (ys.length + xs.length) cap) (ys.reverse ++ xs.reverse)) (a : Addr) (ha : 0 < xs.length → a = ⟨g, ys.length, none⟩) : Row w (.slice (some a) xs.length (cap - ys.length)) xs.reverse := by
  have e : (ys.reverse ++ xs.reverse).length = ys.length + xs.length := by rw [List.length_append, List.length_reverse, List.length_reverse]
  rw [← e] at h
  have := Row.drop ys.length h (by rw [e]; omega) a (fun hlt => by rw [ha (by rw [e] at hlt; omega), Nat.zero_add])
  rw [e, Nat.add_sub_cancel_left] at this
  have e2 : (ys.reverse ++ xs.reverse).drop ys.length = xs.reverse := by
    have := List.drop_left (l₁ := ys.reverse) (l₂ := xs.reverse)
    rwa [List.length_reverse] at this
  rwa [e2] at this
theorem parts_take {w : World} {g cap : Nat} {xs ys : List Int} (h : Row w (.slice (some ⟨g, 0, none⟩) (ys.length + xs.length) cap) (ys.reverse ++ xs.reverse)) : Row w (.slice (some ⟨g, 0, none⟩) ys.length cap) ys.reverse := by
  have e : (ys.reverse ++ xs.reverse).length = ys.length + xs.length := by rw [List.length_append, List.length_reverse, List.length_reverse]
  rw [← e] at h
  have := Row.take ys.length h (by rw [e]; omega)
  have e2 : (ys.reverse ++ xs.reverse).take ys.length = ys.reverse := by
    have := List.take_left (l₁ := ys.reverse) (l₂ := xs.reverse)
    rwa [List.length_reverse] at this
  rwa [e2] at this

def PaRel (W : World) (t : Value) (xs ys : List Int) (e0 e i : Value) (wr : World) : Prop :=
  ∃ k : Nat, i = .int .i64 k ∧ k ≤ ys.length ∧ Ch wr t xs.reverse e0 ∧ Ch wr t ((ys.take k).reverse ++ xs.reverse) e ∧ Below W.heap.size W wr

set_option maxRecDepth 100000 in
set_option maxHeartbeats 4000000 in
theorem parts_some (s : Nat → Addr) (c : Nat) (v u : Value) (xs ys : List Int) (W : World) (L : Laid W s) (hv : Row W v xs) (hu : Row W u ys) (h1 : 1 ≤ c) (h2 : c ≤ 11) (hl : xs.length ≤ 40) (hl2 : ys.length ≤ 40) :
    Calls Tryd.prog 5 #[.int .i64 c, v, u] W (True1 W) := by
  have HA := awake_true s W L
  have HL : Hid _ := L
  have HV : Hid (Row W v xs) := hv
  have HU : Hid (Row W u ys) := hu
  obtain ⟨ao, cp, rfl⟩ := hv.slice
  obtain ⟨bo, d, rfl⟩ := hu.slice
  have h40 : (xs.length : Int) ≤ 40 := by omega
  have h41 : (ys.length : Int) ≤ 40 := by omega
  have H1 : Hid (1 ≤ c) := h1
  have H2 : Hid (c ≤ 11) := h2
  have hll : Hid (xs.length ≤ 1000) := by show _ ≤ _; omega
  clear L hv hu h1 h2
  go_enter Tryd.func5, Tryd.ntmps5
  go_wp2_with (first
    | (go_at_call 9; refine HA.mono ?_; rintro e w1 ⟨rfl, hb⟩; have B1 : Hid (Below W.heap.size W w1) := hb; clear hb)
    | (go_at_call 10; refine (wrapped_some s c _ xs _ (HL.out.keep B1.out) H1.out H2.out (Row.keep HV.out B1.out) hll.out).mono ?_; rintro e w2 ⟨e0, rfl, hch, hb⟩; obtain ⟨T, x, rfl⟩ := hch.shape; have C2 : Hid (Ch w2 (.iface 71 (.pointer (some (s c)))) xs.reverse (.iface T x)) := hch; have B2 : Hid (Below W.heap.size W w2) := hid_trans B1 (hid_size B1) hb; clear hb hch))
  go_loopw [8, 9] (fun e i wr => PaRel W (.iface 71 (.pointer (some (s c)))) xs ys (.iface T x) e i wr) (fun _ i _ => ys.length - (intOf i).toNat)
  case atStart => exact ⟨0, rfl, Nat.zero_le _, C2.out, by rw [List.take_zero]; exact C2.out, B2.out⟩
  case round =>
    obtain ⟨k, rfl, hk, hC0, hC, hb⟩ := hrel
    obtain ⟨T', x', rfl⟩ := hC.shape
    have HB : Hid (Below W.heap.size W wr) := hb
    have HC0 : Hid (Ch wr (.iface 71 (.pointer (some (s c)))) xs.reverse (.iface T x)) := hC0
    have HC : Hid (Ch wr (.iface 71 (.pointer (some (s c)))) ((ys.take k).reverse ++ xs.reverse) (.iface T' x')) := hC
    clear hC0 hC
    by_cases hlt : k < ys.length
    · rcases Row.keep HU.out hb with ⟨_, rfl⟩ | ⟨b, off, cap, e1, _, _, h4⟩
      · simp at hlt
      have g1 := h4 k hlt
      cases e1
      clear h4 hb
      have hlt' : (k : Int) < ys.length := by omega
      have hk0 : (0 : Int) ≤ k := by omega
      go_wp2_with (go_at_call 18; refine (At_some _ _ _ _).mono ?_; rintro e w3 ⟨rfl, rfl⟩)
      go_roundw
      case rel => exact ⟨k + 1, by go_num, by omega, HC0.out.keep ((Below.refl _ _).alloc (Nat.le_refl _) _), by rw [take_rev ys k hlt]; exact HC.out.push _, HB.out.alloc HB.out.size _⟩
      case measure => simp [intOf]; omega
    · obtain rfl : k = ys.length := by omega
      clear hb
      have C3 : Hid (Ch wr (.iface 71 (.pointer (some (s c)))) (ys.reverse ++ xs.reverse) (.iface T' x')) := by have := HC.out; rw [List.take_length] at this; exact this
      clear HC
      have hl1 : Hid ((ys.reverse ++ xs.reverse).length ≤ 200 ∧ (ys.reverse ++ xs.reverse).length ≤ 1000 ∧ xs.reverse.length ≤ 1000 ∧ xs.reverse.length ≤ 200 ∧ ys.length ≤ 1000 ∧ ys.reverse.length ≤ 1000) := by
        show _ ∧ _
        rw [List.length_append, List.length_reverse, List.length_reverse]; omega
      go_wp2_with fail
      refine (Path_any (s c) _ _ _ wr C3.out (Nat.le_refl _) hl1.out.1).mono ?_
      rintro e w3 ⟨u10, rfl, hown, hb⟩
      have B3 : Hid (Below W.heap.size W w3) := hid_trans HB (hid_size HB) hb
      have C4 : Hid (Ch w3 (.iface 71 (.pointer (some (s c)))) (ys.reverse ++ xs.reverse) (.iface T' x')) := C3.out.keep hb
      have C5 : Hid (Ch w3 (.iface 71 (.pointer (some (s c)))) xs.reverse (.iface T x)) := HC0.out.keep hb
      have R3 : Hid (Row w3 u10 (ys.reverse ++ xs.reverse)) := Row.own hown
      have hlen : (ys.reverse ++ xs.reverse).length = ys.length + xs.length := by simp
      rw [hlen] at hown
      rcases hown.2 with ⟨rfl, h0⟩ | ⟨g, cap, cur, rfl, _, _, hcap, _, _, _⟩
      · have hz : ys.length = 0 ∧ xs.length = 0 := by omega
        obtain rfl := List.length_eq_zero_iff.1 hz.1
        obtain rfl := List.length_eq_zero_iff.1 hz.2
        clear hown hb h0 hz hlen hk
        go_wp2_with (first
          | (go_at_call 12; ((with_reducible refine (Code_ch (HL.out.keep D3.out) H1.out H2.out D5.out hl1.out.2.2.1).mono ?_); rintro e w5 ⟨rfl, hb⟩; have E3 : Hid (Below W.heap.size W w5) := hid_trans D3 (hid_size D3) hb; have E5 : Hid (Ch w5 (.iface 71 (.pointer (some (s c)))) ([] : List Int).reverse (.iface T x)) := D5.out.keep hb; clear hb))
          | (go_at_call 12; ((with_reducible refine (Code_ch (HL.out.keep B3.out) H1.out H2.out C4.out hl1.out.2.1).mono ?_); rintro e w4 ⟨rfl, hb⟩; have D3 : Hid (Below W.heap.size W w4) := hid_trans B3 (hid_size B3) hb; have D5 : Hid (Ch w4 (.iface 71 (.pointer (some (s c)))) ([] : List Int).reverse (.iface T x)) := C5.out.keep hb; clear hb)))
        have hP := (Path_ch (W := w5.drew) (E5.out.keep (below_drew _)) hl1.out.2.2.2.1).mono (R' := fun e w' => ∃ u, e = .returned u ∧ Hid (Row w' u [] ∧ Row w' (.slice bo 0 d) [] ∧ Below W.heap.size W w')) (fun e w' h => by
          obtain ⟨u, h1, h2, hb⟩ := h
          have hb' : Below w5.heap.size w5 w' := (below_drew w5).trans hb
          have hbW : Below W.heap.size W w' := E3.out.trans (hb'.mono E3.out.size)
          exact ⟨u, h1, h2, .inl ⟨⟨_, _, rfl⟩, rfl⟩, hbW⟩)
        go_region_with (first
          | (go_at_call 13; refine hP.mono ?_; rintro e w6 ⟨u13, rfl, F6⟩)
          | (go_at_call 14; ((with_reducible refine (Ints_true _ _ [] _ (row_nil _) F8.out.1 (Nat.zero_le _)).mono ?_); rintro e w9 ⟨rfl, hb⟩; have B9 : Hid (Below W.heap.size W w9) := F8.out.2.trans (hb.mono F8.out.2.size); clear hb))
          | (go_at_call 14; ((with_reducible refine (Ints_true _ _ [] _ (row_nil _) F6.out.1 (Nat.zero_le _)).mono ?_); rintro e w7 ⟨rfl, hb⟩; have F7 : Hid (Row w7 (.slice bo 0 d) [] ∧ Below W.heap.size W w7) := ⟨Row.keep F6.out.2.1 hb, F6.out.2.2.trans (hb.mono F6.out.2.2.size)⟩; clear hb))
          | (go_at_call 15; ((with_reducible refine (Back_any _ [] _ F7.out.1 (Nat.zero_le _)).mono ?_); rintro e w8 ⟨u15, rfl, hr, hb⟩; have F8 : Hid (Row w8 u15 [] ∧ Below W.heap.size W w8) := ⟨hr, F7.out.2.trans (hb.mono F7.out.2.size)⟩; clear hb hr)))
        all_goals (try go_wp2)
        all_goals (go_ret; exact ⟨rfl, B9.out⟩)
      · clear hown hb
        have hcap' : ((ys.length + xs.length : Nat) : Int) ≤ cap := by omega
        go_wp2_with (first
          | (go_at_call 12; ((with_reducible refine (Code_ch (HL.out.keep D3.out) H1.out H2.out D5.out hl1.out.2.2.1).mono ?_); rintro e w5 ⟨rfl, hb⟩; have E3 : Hid (Below W.heap.size W w5) := hid_trans D3 (hid_size D3) hb; have E5 : Hid (Ch w5 (.iface 71 (.pointer (some (s c)))) xs.reverse (.iface T x)) := D5.out.keep hb; have ER : Hid (Row w5 (.slice (some ⟨g, 0, none⟩) (ys.length + xs.length) cap) (ys.reverse ++ xs.reverse)) := Row.keep DR.out hb; clear hb))
          | (go_at_call 12; ((with_reducible refine (Code_ch (HL.out.keep B3.out) H1.out H2.out C4.out hl1.out.2.1).mono ?_); rintro e w4 ⟨rfl, hb⟩; have D3 : Hid (Below W.heap.size W w4) := hid_trans B3 (hid_size B3) hb; have D5 : Hid (Ch w4 (.iface 71 (.pointer (some (s c)))) xs.reverse (.iface T x)) := C5.out.keep hb; have DR : Hid (Row w4 (.slice (some ⟨g, 0, none⟩) (ys.length + xs.length) cap) (ys.reverse ++ xs.reverse)) := Row.keep R3.out hb; clear hb)))
        have hP := (Path_ch (W := w5.drew) (E5.out.keep (below_drew _)) hl1.out.2.2.2.1).mono (R' := fun e w' => ∃ u, e = .returned u ∧ Hid (Row w' u xs.reverse ∧ Row w' (.slice (some ⟨g, 0, none⟩) (ys.length + xs.length) cap) (ys.reverse ++ xs.reverse) ∧ Row w' (.slice bo ys.length d) ys ∧ Below W.heap.size W w')) (fun e w' h => by
          obtain ⟨u, h1, h2, hb⟩ := h
          have hb' : Below w5.heap.size w5 w' := (below_drew w5).trans hb
          have hbW : Below W.heap.size W w' := E3.out.trans (hb'.mono E3.out.size)
          exact ⟨u, h1, h2, Row.keep ER.out hb', Row.keep HU.out hbW, hbW⟩)
        have hbnd : (ys.length : Int) ≤ (xs.length : Int) + ys.length := by omega
        by_cases hcy : cap = ys.length
        · obtain rfl : xs = [] := List.length_eq_zero_iff.1 (by omega)
          subst hcy
          clear hk hlen hcap hcap' hbnd
          go_region_with (first
            | (go_at_call 13; refine hP.mono ?_; rintro e w6 ⟨u13, rfl, F6⟩)
            | (go_at_call 14; ((with_reducible refine (Ints_true _ _ _ _ (parts_take F8.out.1) F8.out.2.1 hl1.out.2.2.2.2.2).mono ?_); rintro e w9 ⟨rfl, hb⟩; have B9 : Hid (Below W.heap.size W w9) := F8.out.2.2.trans (hb.mono F8.out.2.2.size); clear hb))
            | (go_at_call 14; ((refine (Ints_true _ _ [] _ (.inl ⟨⟨_, _, rfl⟩, rfl⟩) F6.out.1 (Nat.zero_le _)).mono ?_); rintro e w7 ⟨rfl, hb⟩; have F7 : Hid (Row w7 (.slice (some ⟨g, 0, none⟩) (ys.length + ([] : List Int).length) ys.length) (ys.reverse ++ ([] : List Int).reverse) ∧ Row w7 (.slice bo ys.length d) ys ∧ Below W.heap.size W w7) := ⟨Row.keep F6.out.2.1 hb, Row.keep F6.out.2.2.1 hb, F6.out.2.2.2.trans (hb.mono F6.out.2.2.2.size)⟩; clear hb))
            | (go_at_call 15; ((with_reducible refine (Back_any _ _ _ F7.out.2.1 hl1.out.2.2.2.2.1).mono ?_); rintro e w8 ⟨u15, rfl, hr, hb⟩; have F8 : Hid (Row w8 (.slice (some ⟨g, 0, none⟩) (ys.length + ([] : List Int).length) ys.length) (ys.reverse ++ ([] : List Int).reverse) ∧ Row w8 u15 ys.reverse ∧ Below W.heap.size W w8) := ⟨Row.keep F7.out.1 hb, hr, F7.out.2.2.trans (hb.mono F7.out.2.2.size)⟩; clear hb hr)))
          all_goals (try go_wp2)
          all_goals (go_ret; exact ⟨rfl, B9.out⟩)
        · have hcy' : ¬ cap = ys.length := hcy
          go_region_with (first
            | (go_at_call 13; refine hP.mono ?_; rintro e w6 ⟨u13, rfl, F6⟩)
            | (go_at_call 14; ((with_reducible refine (Ints_true _ _ _ _ (parts_take F8.out.1) F8.out.2.1 hl1.out.2.2.2.2.2).mono ?_); rintro e w9 ⟨rfl, hb⟩; have B9 : Hid (Below W.heap.size W w9) := F8.out.2.2.trans (hb.mono F8.out.2.2.size); clear hb))
            | (go_at_call 14; ((with_reducible refine (Ints_true _ _ _ _ (parts_drop F6.out.2.1 _ (fun _ => rfl)) F6.out.1 hl1.out.2.2.1).mono ?_); rintro e w7 ⟨rfl, hb⟩; have F7 : Hid (Row w7 (.slice (some ⟨g, 0, none⟩) (ys.length + xs.length) cap) (ys.reverse ++ xs.reverse) ∧ Row w7 (.slice bo ys.length d) ys ∧ Below W.heap.size W w7) := ⟨Row.keep F6.out.2.1 hb, Row.keep F6.out.2.2.1 hb, F6.out.2.2.2.trans (hb.mono F6.out.2.2.2.size)⟩; clear hb))
            | (go_at_call 15; ((with_reducible refine (Back_any _ _ _ F7.out.2.1 hl1.out.2.2.2.2.1).mono ?_); rintro e w8 ⟨u15, rfl, hr, hb⟩; have F8 : Hid (Row w8 (.slice (some ⟨g, 0, none⟩) (ys.length + xs.length) cap) (ys.reverse ++ xs.reverse) ∧ Row w8 u15 ys.reverse ∧ Below W.heap.size W w8) := ⟨Row.keep F7.out.1 hb, hr, F7.out.2.2.trans (hb.mono F7.out.2.2.size)⟩; clear hb hr)))
          all_goals (try go_wp2)
          all_goals (go_ret; exact ⟨rfl, B9.out⟩)

theorem parts_any (s : Nat → Addr) (code : Int) (v u : Value) (xs ys : List Int) (W : World) (L : Laid W s) (hv : Row W v xs) (hu : Row W u ys) :
    Calls Tryd.prog 5 #[.int .i64 code, v, u] W (True1 W) := by
  by_cases hl : 40 < xs.length ∨ 40 < ys.length
  · exact parts_long s code v u xs ys W L hv hu hl
  by_cases hc : code < 1 ∨ 11 < code
  · exact parts_none s code v u xs ys W L hv hu (by omega) (by omega) hc
  obtain ⟨c, rfl⟩ : ∃ c : Nat, code = c := ⟨code.toNat, by omega⟩
  exact parts_some s c v u xs ys W L hv hu (by omega) (by omega) (by omega) (by omega)
end Go.Proofs.YtdojgjainfelcaaDoor
