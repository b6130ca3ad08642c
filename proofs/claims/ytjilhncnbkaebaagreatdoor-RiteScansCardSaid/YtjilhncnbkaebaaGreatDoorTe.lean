/- The walk of RiteScans. A template (fill.py). -/
import Derived.Test.YtjilhncnbkaebaaGreatDoorTa
import Derived.Test.YtjilhncnbkaebaaGreatDoorTc
import Derived.Test.YtjilhncnbkaebaaGreatDoorTd
import Derived.Test.YtjilhncnbkaebaaGreatDoorRs
namespace Go.Proofs.YtjilhncnbkaebaaGreatDoor
open Go.RowKit Go.Extern.Stop Go.Stop Go.Extern Go.Sort
theorem u64_mod (x : Int) (m : Nat) (hm : 0 < m) : ∃ n : Nat, n < m ∧ (IntKind.u64.wrap x).tmod (m : Int) = n := by
  have h0 : 0 ≤ IntKind.u64.wrap x := by rw [IntKind.wrap_u64]; omega
  rw [Int.tmod_eq_emod_of_nonneg h0]
  have h1 := Int.emod_nonneg (IntKind.u64.wrap x) (show (m : Int) ≠ 0 by omega)
  have h2 := Int.emod_lt_of_pos (IntKind.u64.wrap x) (show (0 : Int) < m by omega)
  exact ⟨((IntKind.u64.wrap x) % (m : Int)).toNat, by omega, by omega⟩
/-- The booleans of an array as cells. -/
def bools (S : Nat → Bool) : Array Value := #[.bool (S 0), .bool (S 1), .bool (S 2), .bool (S 3), .bool (S 4), .bool (S 5), .bool (S 6), .bool (S 7), .bool (S 8), .bool (S 9), .bool (S 10), .bool (S 11), .bool (S 12)]
theorem bools_at (S : Nat → Bool) (k : Nat) (h : k < 13) : (bools S)[k]? = some (.bool (S k)) := by
  match k, h with
  | 0, _ | 1, _ | 2, _ | 3, _ | 4, _ | 5, _ | 6, _ | 7, _ | 8, _ | 9, _ | 10, _ | 11, _ | 12, _ => rfl
theorem bools_set (S : Nat → Bool) (s : Nat) (h : s < 13) : (bools S).setIfInBounds s (.bool true) = bools fun k => S k || decide (k = s) := by
  match s, h with
  | 0, _ | 1, _ | 2, _ | 3, _ | 4, _ | 5, _ | 6, _ | 7, _ | 8, _ | 9, _ | 10, _ | 11, _ | 12, _ => simp [bools]
theorem keep_i (q r f : Nat) (hq : q ≤ 1) (hr : r < 9) (h : f = 34 + (9 * q + r)) (w : World) : Calls Tryz.prog 22 #[.int .i64 (1 + (q : Int)), .int .i64 (r : Int)] w fun e w' => e = .returned (.tuple #[.agg #[.int .i64 0, .int .i64 0, .int .i64 (f : Int)], .nilIface]) ∧ Below w.heap.size w w' := by
  have := Bd.Keep_yes (1 + (q : Int)) (r : Int) ⟨by omega, by omega⟩ w
  have e : 25 + (1 + (q : Int)) * 9 + (r : Int) = (f : Int) := by omega
  unfold Bd.Yes Bd.ad at this
  rw [e] at this
  exact this
/-- An announcement is stored. -/
theorem do_say {W w : World} {E : Flt → Addr} {B p bs bb r : Nat} {t : St} {m : Rt} {bx : List (Nat × TypeId × Array Value)} {n i : Nat} {S : Nat → Bool} (h : One W w E B p bs bb t r m bx) (hs : Sc1 t n i S) (hi : i < 18) (s f : Nat) (hf : f = 34 + i) (S' : Nat → Bool) (hS : ∀ k, 1 ≤ k → k ≤ n → S' k = (S k || decide (k = s))) :
    Calls Tryz.prog 24 #[.pointer (some ⟨p, 0, none⟩), .agg #[.int .i64 2, .int .i64 0, .int .i64 0, .int .i64 (f : Int), .int .i64 0, .int .i64 0, .int .i64 0, .int .i64 0, .bool false, .int .i64 (s : Int), .int .i64 1, .int .i64 0, .int .i64 0, .bool false]] W
      fun e w' => ∃ v t', e = .returned (.tuple #[v, .nilIface]) ∧ Hid (One w' w E B p bs bb t' r m bx) ∧ Hid (Sc1 t' n (i + 1) S') := by
  subst hf
  have k := sc1_step hs hi s S' hS
  exact (h.Do (by have := hs.steps; omega) ⟨2, 0, 0, ((34 + i : Nat) : Int), zw, kw s⟩ k.1).mono fun e w' ⟨he, h1⟩ => ⟨_, _, he, h1, Lib.hid k.2⟩
theorem One.Do_new {W w : World} {E : Flt → Addr} {B p bs bb r : Nat} {t : St} {m : Rt} {bx : List (Nat × TypeId × Array Value)} {n j : Nat} {D : Nat → Wd} (h : One W w E B p bs bb t r m bx) (hs : Sc2 t m n j D) (hj : j < n) (hn : n ≤ 12) :
    Calls Tryz.prog 24 #[.pointer (some ⟨p, 0, none⟩), .agg #[.int .i64 4, .int .i64 0, .int .i64 0, .int .i64 0, .int .i64 0, .int .i64 0, .int .i64 0, .int .i64 0, .bool false, .int .i64 0, .int .i64 0, .int .i64 0, .int .i64 0, .bool false]] W
      fun e w' => ∃ v, e = .returned (.tuple #[v, .nilIface]) ∧ Hid (One w' w E B p bs bb (t.step acNew0).1 r m bx) :=
  (h.Do (by have := hs.steps; omega) acNew0 (sc2_step hs hj hn).1).mono fun e w' ⟨he, h1⟩ => ⟨_, he, h1⟩
theorem One.Beg_ret {W w : World} {E : Flt → Addr} {B p bs bb r : Nat} {t t0 : St} {m : Rt} {bx : List (Nat × TypeId × Array Value)} {n j : Nat} {D : Nat → Wd} (h : One W w E B p bs bb t r m bx) (hs : Sc2 t0 m n j D) (hj : j < n) (hn : n ≤ 12) (s : Nat) (e : s = j + 1) :
    Calls Tryz.prog 16 #[.pointer (some ⟨r, 0, none⟩), .agg #[.int .i64 10, .int .i64 0, .int .i64 0, .int .i64 0, .int .i64 (s : Int), .int .i64 1, .int .i64 0, .int .i64 0, .bool false, .int .i64 0, .int .i64 0, .int .i64 0, .int .i64 0, .bool false, .int .i64 0, .int .i64 0, .int .i64 0, .int .i64 0]] W
      fun e w' => e = .returned .nilIface ∧ Hid (One w' w E B p bs bb t r (scStep m s) bx) := by
  subst e
  have k := sc2_step hs hj hn
  exact h.Begin hs.idle (clRet (j + 1)) (.inr ⟨by show (1 : Int) ≤ 10; decide, by show (10 : Int) ≤ 11; decide, by show ¬ (10 : Int) = 6; decide, by show ¬ (10 : Int) = 7; decide⟩) k.2.2.1 k.2.1
theorem One.Beg_scan {W w : World} {E : Flt → Addr} {B p bs bb r : Nat} {t : St} {m : Rt} {bx : List (Nat × TypeId × Array Value)} {n : Nat} {D : Nat → Wd} (h : One W w E B p bs bb t r m bx) (hs : Sc2 t m n n D) (hn : n ≤ 12) :
    Calls Tryz.prog 16 #[.pointer (some ⟨r, 0, none⟩), .agg #[.int .i64 11, .int .i64 0, .int .i64 0, .int .i64 0, .int .i64 0, .int .i64 0, .int .i64 0, .int .i64 0, .bool false, .int .i64 0, .int .i64 0, .int .i64 0, .int .i64 0, .bool false, .int .i64 0, .int .i64 0, .int .i64 0, .int .i64 0]] W
      fun e w' => e = .returned .nilIface ∧ Hid (One w' w E B p bs bb t r (m.begins (cl 11)) bx) :=
  h.Begin hs.idle (cl 11) (.inr ⟨by show (1 : Int) ≤ 11; decide, by show (11 : Int) ≤ 11; decide, by show ¬ (11 : Int) = 6; decide, by show ¬ (11 : Int) = 7; decide⟩) (Sc.first hs hn).1 rfl
def Sc2Rel (w : World) (E : Flt → Addr) (B p bs bb r n b : Nat) (D : Nat → Wd) (S : Nat → Bool) (vi : Value) (wr : World) : Prop :=
  ∃ (j s : Nat) (t : St) (m : Rt), j ≤ n ∧ s = j + 1 ∧ vi = .int .i64 (s : Int) ∧ Sc2 t m n j D ∧ One wr w E B p bs bb t r m [(b, 61, bools S)]
def Sc3Rel (w : World) (E : Flt → Addr) (B p bs bb r n b : Nat) (D : Nat → Wd) (S : Nat → Bool) (vi : Value) (wr : World) : Prop :=
  ∃ (i : Nat) (t : St) (m : Rt), i ≤ 101 ∧ vi = .int .i64 (i : Int) ∧ Sc t m n D i ∧ One wr w E B p bs bb t r m [(b, 61, bools S)]
theorem rowc_at {α : Type} {cells : α → List Value} {k : Nat} {w : World} {v : Value} {xs : List α} (h : Sv.RowC cells k w v xs) {i : Nat} {x : α} (hx : xs[i]? = some x) : ∃ b off cap, v = .slice (some ⟨b, off, none⟩) xs.length cap ∧ b < w.heap.size ∧ xs.length ≤ cap ∧ w.rangeAt b (off + i * k) (cells x) := by
  obtain ⟨hi, e⟩ := List.getElem?_eq_some_iff.1 hx
  rcases h with ⟨_, e2⟩ | ⟨b, off, cap, h1, h2, h3, h4⟩
  · subst e2; simp at hi
  · exact ⟨b, off, cap, h1, h2, h3, by rw [← e]; exact h4 i hi⟩
theorem fault_one {W w : World} {E : Flt → Addr} {B p bs bb r : Nat} {t : St} {m : Rt} {bx : List (Nat × TypeId × Array Value)} (h : One W w E B p bs bb t r m bx) (hf : t.fault = none) :
    Calls Tryz.prog 13 #[.pointer (some ⟨p, 0, none⟩)] W fun e w' => e = .returned .nilIface ∧ Below W.heap.size W w' := by
  obtain ⟨K, ⟨⟨v, fv, hr⟩, o, L⟩, _⟩ := h
  exact fault_none hr hf
def Sc4Rel (w : World) (E : Flt → Addr) (B p bs bb r n b : Nat) (t : St) (m : Rt) (S : Nat → Bool) (w8 : World) (va vi : Value) (wr : World) : Prop :=
  ∃ j s c : Nat, j ≤ n ∧ s = j + 1 ∧ c = (stayL j S).length ∧ va = .int .i64 (c : Int) ∧ vi = .int .i64 (s : Int) ∧ One wr w E B p bs bb t r m [(b, 61, bools S)] ∧ Below w8.heap.size w8 wr
def Sc1Rel (w : World) (E : Flt → Addr) (B p bs bb r n len b : Nat) (vi : Value) (wr : World) : Prop :=
  ∃ (i : Nat) (t : St) (S : Nat → Bool), i ≤ len ∧ i ≤ 18 ∧ vi = .int .i64 (i : Int) ∧ Sc1 t n i S ∧ One wr w E B p bs bb t r (Rt.new 2 0 3 64) [(b, 61, bools S)]
set_option maxRecDepth 100000 in
set_option maxHeartbeats 4000000 in
theorem scans_any (E : Flt → Addr) (x : Int) (v : Value) (xs : List Int) (w : World) (L : Env w E) (hv : Row w v xs) :
    Calls Tryz.prog 7 #[.int .i64 x, v] w (True1 w) := by
  have HL := Lib.hid L
  have AW := Lib.hid (awake_is w (E .arg) L.arg)
  have hB0 := L.size
  have HV := Lib.hid hv
  obtain ⟨ao, cp, rfl⟩ := hv.slice
  obtain ⟨k, hk, hx⟩ := u64_mod x 12 (by omega)
  have hw : wrap64 ((IntKind.u64.wrap x).tmod 12) = (k : Int) := by
    have e : (IntKind.u64.wrap x).tmod 12 = (k : Int) := hx
    rw [e]
    exact IntWalk.wrap64_in _ ⟨by omega, by omega⟩
  obtain ⟨n, hn⟩ : ∃ n : Nat, n = k + 1 := ⟨_, rfl⟩
  have hw1 : (1 : Int) + (k : Int) = (n : Int) := by omega
  have hn1 : 1 ≤ n := by omega
  have hn12 : n ≤ 12 := by omega
  clear hx L hv hn hk
  go_enter Tryz.func7, Tryz.ntmps7
  go_wp2_with fail
  refine AW.out.mono ?_
  rintro e w1 ⟨rfl, hb⟩
  have B1 := Lib.hid hb
  clear hb
  have hB : 8 ≤ w1.heap.size := Nat.le_trans hB0 B1.out.size
  go_wp2_with fail
  refine (yard_is E w1 (HL.out.keep B1.out) 2 1 1 n (by omega) (by omega) (by omega) (by omega)).mono ?_
  rintro e w2 ⟨p, bs, bb, g, cap, ts, rfl, _, Y2, _, _, C2⟩
  have P2 := Lib.hid Y2.out.plot
  clear Y2
  go_wp2_with fail
  refine (New_is 2 0 3 64 (by omega) (by omega) (by omega) (by omega) w2).mono ?_
  rintro e w3 ⟨rfl, R3, C3⟩
  have O3 := Lib.hid (One.first P2.out C2.out hB R3.out C3.out)
  clear P2 C2 R3 C3
  have HV1 := Lib.hid (HV.out.keep B1.out)
  have X3 := Lib.hid (O3.out.box 61 (bools fun _ => false) (by decide) (by decide) (by decide))
  have hbox : w1.heap.size ≤ w3.heap.size := O3.out.of.2
  clear HV O3
  go_wp2
  go_loopw [11] (Sc1Rel w1 E w1.heap.size p bs bb w2.heap.size n xs.length w3.heap.size) (fun i _ => 19 - (intOf i).toNat)
  case atStart => exact ⟨0, _, _, by omega, by omega, rfl, sc1_new n, X3.out⟩
  case round =>
    obtain ⟨i, t, S, hi, hi18, rfl, hS, hO⟩ := hrel
    obtain ⟨wo, rfl⟩ : ∃ wo : World, wo = wr := ⟨_, rfl⟩
    have HS := Lib.hid hS
    have HO := Lib.hid hO
    clear hS hO X3
    by_cases hlt : i < xs.length ∧ i < 18
    · obtain ⟨hlt, hlt18⟩ := hlt
      rcases HV1.out with ⟨_, e⟩ | ⟨bx, off, cap', e, hbx, hcap, hcell⟩
      · subst e; exact absurd hlt (Nat.not_lt_zero _)
      · injection e with e1 e2 e3
        subst e1
        obtain ⟨y, hy⟩ : ∃ y, y = xs[i] := ⟨_, rfl⟩
        have hc := hcell i hlt
        rw [← hy] at hc
        have cx : wo.cell? ⟨bx, off + i, none⟩ = some (.int .i64 y) := by rw [HO.out.of.1.cell (p := ⟨bx, off + i, none⟩) hbx]; exact hc
        clear hc hcell hy e2 e3
        obtain ⟨s, hs, hsy⟩ := u64_mod y 14 (by omega)
        have hw : wrap64 ((IntKind.u64.wrap y).tmod 14) = (s : Int) := by
          have e : (IntKind.u64.wrap y).tmod 14 = (s : Int) := hsy
          rw [e]
          exact IntWalk.wrap64_in _ ⟨by omega, by omega⟩
        clear hsy
        have j1 : (i : Int) < xs.length := by omega
        have j2 : (i : Int) < 18 := by omega
        obtain ⟨q, hq⟩ : ∃ q : Nat, q = i / 9 := ⟨_, rfl⟩
        obtain ⟨r, hr⟩ : ∃ r : Nat, r = i % 9 := ⟨_, rfl⟩
        obtain ⟨f, hf⟩ : ∃ f : Nat, f = 34 + i := ⟨_, rfl⟩
        have hqi : (i : Int) / 9 = (q : Int) := by omega
        have hri : (i : Int) % 9 = (r : Int) := by omega
        have KP := Lib.hid (keep_i q r f (by omega) (by omega) (by omega) wo)
        have HF := Lib.hid hf
        clear hq hr hf
        go_wp2_with fail
        refine KP.out.mono ?_
        rintro e w4 ⟨rfl, hb⟩
        have O4 := Lib.hid (HO.out.below hb)
        clear hb HO KP cx
        simp only [hw]
        clear hqi hri hw
        have O5 := Lib.hid (O4.out.alloc (.cells #[.int .i64 0, .int .i64 0, .int .i64 (f : Int)] 47))
        clear O4
        have js : (s : Int) < 14 := by omega
        by_cases hin : 1 ≤ s ∧ s ≤ n
        · obtain ⟨h1s, hsn⟩ := hin
          have k1 : (1 : Int) ≤ (s : Int) := by omega
          have k2 : (s : Int) ≤ (n : Int) := by omega
          have k3 : (s : Int) < 13 := by omega
          have hs13 : s < 13 := by omega
          go_wp2_with fail
          refine (do_say O5.out HS.out hlt18 s f HF.out (fun k => S k || decide (k = s)) (fun _ _ _ => rfl)).mono ?_
          rintro e w6 ⟨v6, t6, rfl, O6, S6⟩
          have hbk := O6.out.get _ (List.mem_singleton.2 rfl)
          have c6 := hbk.cell s
          have f6 := hbk.frozen s
          have z6 := hbk.lt
          simp only [bools_at S s hs13] at c6 f6 z6
          have O7 := Lib.hid (O6.out.set s (.bool true) (fun x hx => (by cases hx)) hbox (by decide))
          rw [bools_set S s hs13] at O7
          clear hbk O5 HS
          go_wp2
          refine ⟨⟨i + 1, t6, _, by omega, by omega, by go_num, S6.out, O7.out⟩, by simp [intOf]; omega⟩
        · have hS' : ∀ k, 1 ≤ k → k ≤ n → S k = (S k || decide (k = s)) := fun k h1 h2 => by
            have : ¬ k = s := fun e => hin ⟨by omega, by omega⟩
            simp [this]
          have HS' := Lib.hid hS'
          have hcs : ¬ (1 : Int) ≤ (s : Int) ∨ ((1 : Int) ≤ (s : Int) ∧ ¬ (s : Int) ≤ (n : Int)) := by omega
          clear hin hS'
          rcases hcs with k1 | ⟨k1, k2⟩
          all_goals
            go_wp2_with fail
            refine (do_say O5.out HS.out hlt18 s f HF.out S HS'.out).mono ?_
            rintro e w6 ⟨v6, t6, rfl, O6, S6⟩
            clear O5 HS HS'
            go_wp2
            refine ⟨⟨i + 1, t6, _, by omega, by omega, by go_num, S6.out, O6.out⟩, by simp [intOf]; omega⟩
    · have hlt' : ¬ (i : Int) < xs.length ∨ ((i : Int) < xs.length ∧ ¬ (i : Int) < 18) := by omega
      have S2 := Lib.hid (sc2_first HS.out hi18)
      have HSK := Lib.hid (fun s h1 h2 => kp_says HS.out hi18 s h1 h2)
      generalize t.board = D at S2 HSK
      clear hlt HS HV1
      rcases hlt' with j1 | ⟨j1, j2⟩
      all_goals
        go_wp2
        clear j1
        go_loopw [15] (Sc2Rel w1 E w1.heap.size p bs bb w2.heap.size n w3.heap.size D S) (fun i _ => 14 - (intOf i).toNat)
        case atStart => exact ⟨0, 1, t, _, by omega, rfl, rfl, S2.out, HO.out⟩
        case round =>
          obtain ⟨j, s, t, m, hj, hsj, rfl, hS, hO⟩ := hrel
          obtain ⟨wo, rfl⟩ : ∃ wo : World, wo = wr := ⟨_, rfl⟩
          have HS := Lib.hid hS
          have HO := Lib.hid hO
          have HSJ := Lib.hid hsj
          clear hS hO S2 hsj
          by_cases hlt : j < n
          · have j1 : (s : Int) ≤ (n : Int) := by have := HSJ.out; omega
            go_wp2_with fail
            refine (One.Do_new HO.out HS.out hlt hn12).mono ?_
            rintro e w4 ⟨v4, rfl, O4⟩
            go_wp2_with fail
            refine (One.Beg_ret O4.out HS.out hlt hn12 s HSJ.out).mono ?_
            rintro e w5 ⟨rfl, O5⟩
            go_wp2_with fail
            refine (O5.out.Busy false rfl).mono ?_
            rintro e w6 ⟨rfl, rfl⟩
            have S5 : Hid (Sc2 (t.step acNew0).1 (scStep m s) n (j + 1) D) := Lib.hid (by rw [HSJ.out]; exact (sc2_step HS.out hlt hn12).2.2.2)
            clear O4 HO HS
            have hs13 : s ≤ 12 := by have := HSJ.out; omega
            go_wp2
            refine ⟨⟨j + 1, s + 1, _, _, by omega, by have := HSJ.out; omega, by go_num, S5.out, O5.out⟩, by simp [intOf]; omega⟩
          · obtain rfl : n = j := by omega
            have j1 : ¬ (s : Int) ≤ (n : Int) := by have := HSJ.out; omega
            go_wp2_with fail
            refine (One.Beg_scan HO.out HS.out hn12).mono ?_
            rintro e w4 ⟨rfl, O4⟩
            have S4 := Lib.hid (Sc.first HS.out hn12).2
            generalize m.begins (cl 11) = m' at O4 S4
            clear HO HS HSJ hlt
            go_wp2
            clear j1
            go_loopw [16] (Sc3Rel w1 E w1.heap.size p bs bb w2.heap.size n w3.heap.size D S) (fun i _ => 501 - (intOf i).toNat)
            case atStart => exact ⟨0, t, m', by omega, rfl, S4.out, O4.out⟩
            case round =>
              obtain ⟨i, t, m, hi, rfl, hS, hO⟩ := hrel
              obtain ⟨wo, rfl⟩ : ∃ wo : World, wo = wr := ⟨_, rfl⟩
              have HS := Lib.hid hS
              have HO := Lib.hid hO
              clear hS hO S4 O4
              cases hbz : m.st.busy with
              | true =>
                have hi100 : i ≤ 100 := (Sc.step HS.out hn12 hbz).2.2.2
                have j1 : (i : Int) < 500 := by omega
                have ST := Lib.hid (Sc.step HS.out hn12 hbz)
                go_wp2_with fail
                refine (HO.out.Busy true hbz).mono ?_
                rintro e w5 ⟨rfl, rfl⟩
                go_wp2_with fail
                refine (HO.out.Next hbz).mono ?_
                rintro e w5 ⟨rfl, O5⟩
                clear HO
                unfold aav
                have ht : t.steps < 900000 := by have := HS.out.1.steps; omega
                have O6 := Lib.hid (O5.out.alloc (.cells #[.int .i64 m.st.acc.kind, .int .i64 m.st.acc.s, .int .i64 m.st.acc.g, .int .i64 m.st.acc.f, .int .i64 m.st.acc.old.slot, .int .i64 m.st.acc.old.gen, .int .i64 m.st.acc.old.tag, .int .i64 m.st.acc.old.num, .bool m.st.acc.old.mark, .int .i64 m.st.acc.new.slot, .int .i64 m.st.acc.new.gen, .int .i64 m.st.acc.new.tag, .int .i64 m.st.acc.new.num, .bool m.st.acc.new.mark] 67))
                clear O5
                go_wp2_with fail
                refine (O6.out.Do ht m.st.acc ST.out.1).mono ?_
                rintro e w6 ⟨rfl, O7⟩
                clear O6 HS ht
                obtain ⟨y, hy⟩ : ∃ y, (t.step m.st.acc).2 = y := ⟨_, rfl⟩
                obtain ⟨t', ht'⟩ : ∃ t', (t.step m.st.acc).1 = t' := ⟨_, rfl⟩
                rw [hy, ht'] at ST
                rw [ht'] at O7
                rw [hy]
                clear hy ht'
                unfold rpv
                have O8 := Lib.hid (O7.out.alloc (.cells #[.int .i64 y.1.slot, .int .i64 y.1.gen, .int .i64 y.1.tag, .int .i64 y.1.num, .bool y.1.mark, .bool y.2] 63))
                clear O7
                go_wp2_with fail
                refine (O8.out.Took hbz y ST.out.2.1).mono ?_
                rintro e w7 ⟨rfl, O9⟩
                have S9 := Lib.hid ST.out.2.2.1
                clear O8 ST
                go_wp2
                refine ⟨⟨i + 1, t', _, by omega, by go_num, S9.out, O9.out⟩, by simp [intOf]; omega⟩
              | false =>
                have j1 : (i : Int) < 500 := by omega
                obtain ⟨HC, hN⟩ := Sc.done HS.out hbz
                have HC := Lib.hid HC
                rw [notes_kept HSK.out] at hN
                have hU := Lib.hid (used_kept HC.out hN)
                have hN := Lib.hid hN
                have hBZ := Lib.hid hbz
                have hlen : m.notes.length ≤ 1000 := by have := HC.out.freed; omega
                go_wp2_with fail
                refine (HO.out.Busy false hBZ.out).mono ?_
                rintro e w5 ⟨rfl, rfl⟩
                go_wp2_with fail
                refine (HO.out.Notes hlen).mono ?_
                rintro e w6 ⟨u, rfl, RN, O6⟩
                clear HO hlen HS
                go_wp2_with fail
                refine O6.out.Used.mono ?_
                rintro e w7 ⟨u', rfl, RU, O7, B7⟩
                have RN := Lib.hid (RN.out.keep B7.out)
                clear O6 B7
                rw [hN.out] at RN
                rw [HC.out.tn, hU.out] at RU
                have hfr := HC.out.freed
                rw [hN.out, List.length_map] at hfr
                have hFR := Lib.hid hfr
                have hft := Lib.hid HC.out.fault
                clear hfr HC hU hN hbz
                obtain ⟨N, hN⟩ : ∃ N, N = (stayL n S).length := ⟨_, rfl⟩
                obtain ⟨l1, hl1⟩ : ∃ l1, l1 = (stayL n S).map nt := ⟨_, rfl⟩
                obtain ⟨l2, hl2⟩ : ∃ l2, l2 = (stayL n S).map fun (s : Nat) => (⟨(s : Int), 1, 0, 0, false⟩ : Wd) := ⟨_, rfl⟩
                rw [← hl1] at RN
                rw [← hl2] at RU
                have q1 : l1.length = N := by rw [hl1, hN, List.length_map]
                have q2 : l2.length = N := by rw [hl2, hN, List.length_map]
                obtain ⟨ao1, cp1, e1⟩ := RN.out.slice
                obtain ⟨ao2, cp2, e2⟩ := RU.out.slice
                rw [q1] at e1
                rw [q2] at e2
                subst e1
                subst e2
                rw [← hN] at hFR
                have hNN := Lib.hid hN
                have HL1 := Lib.hid hl1
                have HL2 := Lib.hid hl2
                have Q1 := Lib.hid q1
                have Q2 := Lib.hid q2
                clear hN hl1 hl2 q1 q2
                go_wp2
                go_loopw [23, 24] (Sc4Rel w1 E w1.heap.size p bs bb w2.heap.size n w3.heap.size t m S w7) (fun _ i _ => 14 - (intOf i).toNat)
                case atStart => exact ⟨0, 1, 0, by omega, rfl, rfl, rfl, rfl, O7.out, Below.refl _ _⟩
                case round =>
                  obtain ⟨j, s, c, hj, hsj, hc, rfl, rfl, hO, hbel⟩ := hrel
                  obtain ⟨wo, rfl⟩ : ∃ wo : World, wo = wr := ⟨_, rfl⟩
                  have HO := Lib.hid hO
                  have HB8 := Lib.hid hbel
                  have HSJ := Lib.hid hsj
                  have HCC := Lib.hid hc
                  clear hO O7 hsj hc hbel
                  by_cases hlt : j < n
                  · have hs12 : s ≤ 12 := by have := HSJ.out; omega
                    have j2 : (s : Int) ≤ (n : Int) := by have := HSJ.out; omega
                    have j3 : (s : Int) < 13 := by omega
                    have hbk := HO.out.get _ (List.mem_singleton.2 rfl)
                    have c6 := hbk.cell s
                    have z6 := hbk.lt
                    simp only [bools_at S s (by omega)] at c6 z6
                    clear hbk
                    cases hSs : S s with
                    | false =>
                      rw [hSs] at c6
                      have hn1' : (stayL (j + 1) S).length = c := by rw [kept_succ, ← HSJ.out, hSs, HCC.out]; simp
                      have HN1 := Lib.hid hn1'
                      clear hn1' hSs
                      go_wp2
                      refine ⟨⟨j + 1, s + 1, c, by omega, by have := HSJ.out; omega, HN1.out.symm, rfl, by go_num, HO.out, HB8.out⟩, by simp [intOf]; omega⟩
                    | true =>
                      rw [hSs] at c6
                      have hS' : S (j + 1) = true := by rw [← HSJ.out]; exact hSs
                      have hat := kept_at S hlt hS'
                      rw [← HCC.out, ← HSJ.out] at hat
                      have hcN : c < N := by rw [hNN.out]; exact (List.getElem?_eq_some_iff.1 hat).1
                      have hn1' : (stayL (j + 1) S).length = c + 1 := by rw [kept_succ, hS', HCC.out]; simp
                      have HN1 := Lib.hid hn1'
                      have x1 : l1[c]? = some (nt s) := by rw [HL1.out, List.getElem?_map, hat]; rfl
                      have x2 : l2[c]? = some (⟨(s : Int), 1, 0, 0, false⟩ : Wd) := by rw [HL2.out, List.getElem?_map, hat]; rfl
                      obtain ⟨b1, o1, k1, e1, z1, y1, r1⟩ := rowc_at (RN.out.keep HB8.out) x1
                      obtain ⟨b2, o2, k2, e2, z2, y2, r2⟩ := rowc_at (RU.out.keep HB8.out) x2
                      injection e1 with e11 e12 e13
                      injection e2 with e21 e22 e23
                      subst e11
                      subst e21
                      have d1 := r1 0 _ rfl
                      have d2 := r2 0 _ rfl
                      simp only [Nat.add_zero] at d1 d2
                      have j4 : (c : Int) < (N : Int) := by omega
                      have j5 : (c : Int) < 13 := by have := hFR.out; omega
                      clear hSs hS' hat hn1' x1 x2 e12 e13 e22 e23 r1 r2 y1 y2
                      go_wp2
                      refine ⟨⟨j + 1, s + 1, c + 1, by omega, by have := HSJ.out; omega, HN1.out.symm, by go_num, by go_num, HO.out, HB8.out⟩, by simp [intOf]; omega⟩
                  · obtain rfl : n = j := by omega
                    have j2 : ¬ (s : Int) ≤ (n : Int) := by have := HSJ.out; omega
                    obtain rfl : c = N := by rw [HCC.out, hNN.out]
                    have hfr : (n : Int) - (c : Int) = (m.freed : Int) := by have := hFR.out; omega
                    go_wp2_with fail
                    refine (HO.out.Busy false hBZ.out).mono ?_
                    rintro e w9 ⟨rfl, rfl⟩
                    go_wp2_with fail
                    refine HO.out.Freed.mono ?_
                    rintro e w9 ⟨rfl, rfl⟩
                    go_wp2_with fail
                    refine (fault_one HO.out hft.out).mono ?_
                    rintro e w9 ⟨rfl, hb9⟩
                    have B9 := Lib.hid (HO.out.below hb9).of.1
                    clear HO HB8 hb9
                    go_wp2
                    go_ret
                    exact ⟨rfl, B1.out.trans (B9.out.mono B1.out.size)⟩
end Go.Proofs.YtjilhncnbkaebaaGreatDoor
