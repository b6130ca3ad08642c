/- Functions that take functions: among and its closures, slices.IndexFunc and ContainsFunc, at words, numbers and spans; the closure of Epochs. A template (made by gen_XSk.py). -/
import Derived.Test.YtlhhjbjdinimjaaSe
namespace Go.Proofs.Ytlhhjbjdinimjaa
open Go.RowKit Go.Extern.Stop Go.Stop Go.Extern Go.Sort

theorem wc_cells {w : World} {b o : Nat} {d : Wd} (h : w.rangeAt b o (wc d)) : w.cell? ⟨b, o, none⟩ = some (.int .i64 d.slot) ∧ w.cell? ⟨b, o + 1, none⟩ = some (.int .i64 d.gen) ∧ w.cell? ⟨b, o + 2, none⟩ = some (.int .i64 d.tag) ∧ w.cell? ⟨b, o + 3, none⟩ = some (.int .i64 d.num) ∧ w.cell? ⟨b, o + 4, none⟩ = some (.bool d.mark) :=
  ⟨h 0 _ rfl, h 1 _ rfl, h 2 _ rfl, h 3 _ rfl, h 4 _ rfl⟩
theorem sc_cells {w : World} {b o : Nat} {d : Sp} (h : w.rangeAt b o (sc d)) : w.cell? ⟨b, o, none⟩ = some (.bool d.is) ∧ w.cell? ⟨b, o + 1, none⟩ = some (.int .i64 d.low) ∧ w.cell? ⟨b, o + 2, none⟩ = some (.int .i64 d.high) :=
  ⟨h 0 _ rfl, h 1 _ rfl, h 2 _ rfl⟩
theorem ic_cells {w : World} {b o : Nat} {d : Int} (h : w.rangeAt b o (ic d)) : w.cell? ⟨b, o, none⟩ = some (.int .i64 d) ∧ True := ⟨h 0 _ rfl, trivial⟩
theorem nc_cells {w : World} {b o : Nat} {n : Nt} (h : w.rangeAt b o (nc n)) : w.cell? ⟨b, o, none⟩ = some (.int .i64 n.ref.slot) ∧ w.cell? ⟨b, o + 1, none⟩ = some (.int .i64 n.ref.gen) ∧ w.cell? ⟨b, o + 2, none⟩ = some (.int .i64 n.ref.tag) ∧ w.cell? ⟨b, o + 3, none⟩ = some (.int .i64 n.ref.num) ∧ w.cell? ⟨b, o + 4, none⟩ = some (.bool n.ref.mark) ∧
    w.cell? ⟨b, o + 5, none⟩ = some (.int .i64 n.birth) ∧ w.cell? ⟨b, o + 6, none⟩ = some (.int .i64 n.death) :=
  ⟨h 0 _ rfl, h 1 _ rfl, h 2 _ rfl, h 3 _ rfl, h 4 _ rfl, h 5 _ rfl, h 6 _ rfl⟩
theorem cell7 {w : World} {g : Nat} {t : TypeId} {n : Nt} (h : BlkW w g t (nc n).toArray) :
    w.cell? ⟨g, 0, none⟩ = some (.int .i64 n.ref.slot) ∧ w.cell? ⟨g, 1, none⟩ = some (.int .i64 n.ref.gen) ∧ w.cell? ⟨g, 2, none⟩ = some (.int .i64 n.ref.tag) ∧ w.cell? ⟨g, 3, none⟩ = some (.int .i64 n.ref.num) ∧ w.cell? ⟨g, 4, none⟩ = some (.bool n.ref.mark) ∧
    w.cell? ⟨g, 5, none⟩ = some (.int .i64 n.birth) ∧ w.cell? ⟨g, 6, none⟩ = some (.int .i64 n.death) :=
  ⟨h.cell 0, h.cell 1, h.cell 2, h.cell 3, h.cell 4, h.cell 5, h.cell 6⟩
/-- A function value with two captured places, one, that tells p of what it is given. -/
def Tells {α : Type} (F : FuncId) (cap : Array Value) (ev : α → Value) (p : α → Bool) (W : World) : Prop :=
  (∀ x w, (callFunc F (#[x] ++ cap)).run Try.prog w = .ok (.enter F (#[x] ++ cap)) w) ∧
  ∀ x w, Below W.heap.size W w → Calls Try.prog F (#[ev x] ++ cap) w fun e w' => e = .returned (.bool (p x)) ∧ Below w.heap.size w w'
theorem Tells.keep {α : Type} {F : FuncId} {cap : Array Value} {ev : α → Value} {p : α → Bool} {W W' : World} (h : Tells F cap ev p W) (hb : Below W.heap.size W W') : Tells F cap ev p W' :=
  ⟨h.1, fun x w hw => h.2 x w (below_trans hb hw)⟩
/-- The place of the first element that p tells, else -1. -/
def Found {α : Type} (p : α → Bool) (xs : List α) (w : World) (e : Ending) (w' : World) : Prop :=
  ∃ i : Int, e = .returned (.int .i64 i) ∧ decide (0 ≤ i) = xs.any p ∧ Hid (Below w.heap.size w w')
def IdxRel {α : Type} (p : α → Bool) (xs : List α) (w : World) (vi : Value) (wr : World) : Prop :=
  ∃ k : Nat, k ≤ xs.length ∧ vi = .int .i64 (k : Int) ∧ (xs.take k).any p = false ∧ Below w.heap.size w wr
theorem any_take_succ {α : Type} (p : α → Bool) (xs : List α) (k : Nat) (h : k < xs.length) : (xs.take (k + 1)).any p = ((xs.take k).any p || p xs[k]) := by
  rw [List.take_succ_eq_append_getElem h, List.any_append]; simp
theorem any_hit {α : Type} (p : α → Bool) (xs : List α) (k : Nat) (h : k < xs.length) (hp : p xs[k] = true) : xs.any p = true := List.any_eq_true.2 ⟨_, List.getElem_mem h, hp⟩

theorem epochs_in (now : Int) (n : Nt) (b : Nat) (w : World) (h : BlkW w b 3 #[.int .i64 now]) : Calls Try.prog 22 #[nv n, .pointer (some ⟨b, 0, none⟩)] w fun e w' => e = .returned (.bool (epochK now n)) ∧ Below w.heap.size w w' := by
  have p0 := h.cell 0
  have z1 := h.lt
  clear h
  simp only [List.getElem?_toArray, List.getElem?_cons_zero] at p0
  unfold nv epochK
  by_cases h1 : now < -9223372036854775806
  · go_enter Try.func22, Try.ntmps22
    go_wp2
    go_ret
    exact ⟨by simp [h1], below_alloc (Below.refl _ _) _⟩
  · go_enter Try.func22, Try.ntmps22
    go_wp2
    go_ret
    exact ⟨by simp; omega, below_alloc (Below.refl _ _) _⟩
theorem tells_epochs (now : Int) (b : Nat) (W : World) (h : BlkW W b 3 #[.int .i64 now]) : Tells 22 #[.pointer (some ⟨b, 0, none⟩)] nv (epochK now) W :=
  ⟨fun x w => by kernel_rfl, fun x w hb => epochs_in now x b w (h.below hb)⟩

/-! ### words -/
theorem inW (k : Wd) (n : Nt) (b1 b2 : Nat) (w : World) (h1 : BlkW w b1 54 #[.func (.func 24) #[] #[]]) (h2 : BlkW w b2 39 (nc n).toArray) :
    Calls Try.prog 36 #[wv k, .pointer (some ⟨b1, 0, none⟩), .pointer (some ⟨b2, 0, none⟩)] w fun e w' => e = .returned (.bool (slotK k n)) ∧ Below w.heap.size w w' := by
  obtain ⟨q0, q1, q2, q3, q4, q5, q6⟩ := cell7 h2
  have p0 := h1.cell 0
  have z1 := h1.lt
  have z2 := h2.lt
  clear h1 h2
  simp only [List.getElem?_toArray, List.getElem?_cons_zero] at p0
  unfold wv
  go_enter Try.func36, Try.ntmps36
  go_wp2_with fail
  refine (slotKeeps_any k n _).mono ?_
  rintro e w1 ⟨rfl, hb⟩
  have B1 := Lib.hid (below_trans (below_alloc (Below.refl w.heap.size w) (.cells (wc k).toArray 37)) hb)
  clear hb q0 q1 q2 q3 q4 q5 q6 p0
  go_wp2
  go_ret
  exact ⟨rfl, B1.out⟩
theorem tells_inW (n : Nt) (b1 b2 : Nat) (W : World) (h1 : BlkW W b1 54 #[.func (.func 24) #[] #[]]) (h2 : BlkW W b2 39 (nc n).toArray) :
    Tells 36 #[.pointer (some ⟨b1, 0, none⟩), .pointer (some ⟨b2, 0, none⟩)] wv (fun k => slotK k n) W :=
  ⟨fun x w => by kernel_rfl, fun x w hb => inW x n b1 b2 w (h1.below hb) (h2.below hb)⟩
set_option maxRecDepth 100000 in
set_option maxHeartbeats 1000000 in
theorem idxW (F : FuncId) (cap : Array Value) (p : Wd → Bool) (W : World) (v : Value) (xs : List Wd) (hv : RowC wc 5 W v xs) (hl : xs.length ≤ 200) (hT : Tells F cap wv p W) :
    Calls Try.prog 44 #[v, .func (.func F) #[] cap] W (Found p xs W) := by
  have HV := Lib.hid hv
  have HT := Lib.hid hT
  have hk := hT.1
  obtain ⟨ao, cp, rfl⟩ := hv.slice
  clear hv hT
  go_enter Try.func44, Try.ntmps44
  go_wp2
  go_loopw [8] (fun vi wr => IdxRel p xs W vi wr) (fun vi _ => xs.length - (intOf vi).toNat)
  case atStart => exact ⟨0, Nat.zero_le _, rfl, by simp, Below.refl _ _⟩
  case round =>
    obtain ⟨k, hkl, rfl, hany, hbel⟩ := hrel
    obtain ⟨wo, rfl⟩ : ∃ wo : World, wo = wr := ⟨_, rfl⟩
    have HB := Lib.hid hbel
    have HA := Lib.hid hany
    clear hany hbel
    by_cases hlt : k < xs.length
    · rcases HV.out with ⟨_, e⟩ | ⟨b, off, cap', e, hbx, hcap, hcell⟩
      · subst e; exact absurd hlt (Nat.not_lt_zero _)
      · injection e with e1 e2 e3
        subst e1
        have hc := rangeAt_block (hcell k hlt) (HB.out.block b hbx)
        have HN := Lib.hid (any_take_succ p xs k hlt)
        have HH := Lib.hid (fun hp => any_hit p xs k hlt hp)
        obtain ⟨a, ha⟩ : ∃ a, a = xs[k] := ⟨_, rfl⟩
        rw [← ha] at hc HN HH
        have hcs := wc_cells hc
        obtain ⟨q0, q1, q2, q3, q4⟩ := hcs
        clear hc hcell ha e2 e3
        have j1 : (k : Int) < xs.length := by omega
        go_wp2_with fail
        refine (HT.out.2 a _ HB.out).mono ?_
        rintro e w1 ⟨rfl, hb⟩
        have B1 := Lib.hid (HB.out.trans (hb.mono HB.out.size))
        clear hb q0 q1 q2 q3 q4
        cases hp : p a with
        | true =>
          have H1 := Lib.hid (HH.out hp)
          clear hp
          go_wp2
          go_ret
          exact ⟨k, rfl, by rw [H1.out]; simp, B1.out⟩
        | false =>
          rw [hp] at HN
          clear hp
          go_wp2
          go_roundw
          case rel => exact ⟨k + 1, by omega, by go_num, by rw [HN.out, HA.out]; rfl, B1.out⟩
          case measure => simp [intOf]; omega
    · obtain rfl : k = xs.length := by omega
      go_wp2
      go_ret
      exact ⟨-1, rfl, by have h := HA.out; rw [List.take_length] at h; rw [h]; rfl, HB.out⟩
theorem hasW (F : FuncId) (cap : Array Value) (p : Wd → Bool) (W : World) (v : Value) (xs : List Wd) (hv : RowC wc 5 W v xs) (hl : xs.length ≤ 200) (hT : Tells F cap wv p W) :
    Calls Try.prog 35 #[v, .func (.func F) #[] cap] W fun e w' => e = .returned (.bool (xs.any p)) ∧ Below W.heap.size W w' := by
  have C := idxW F cap p W v xs hv hl hT
  obtain ⟨ao, cp, rfl⟩ := hv.slice
  clear hv hT
  go_enter Try.func35, Try.ntmps35
  go_wp2_with fail
  refine C.mono ?_
  rintro e w1 ⟨i, rfl, hi, hb⟩
  have HI := Lib.hid hi
  clear hi C
  go_wp2
  go_ret
  exact ⟨by rw [← HI.out]; rfl, hb.out⟩
theorem amW (n : Nt) (b1 b2 : Nat) (W : World) (v : Value) (xs : List Wd) (hv : RowC wc 5 W v xs) (hl : xs.length ≤ 200) (h1 : BlkW W b1 23 #[v]) (h2 : BlkW W b2 54 #[.func (.func 24) #[] #[]]) :
    Calls Try.prog 34 #[nv n, .pointer (some ⟨b1, 0, none⟩), .pointer (some ⟨b2, 0, none⟩)] W fun e w' => e = .returned (.bool (xs.any fun k => slotK k n)) ∧ Below W.heap.size W w' := by
  have BX := Lib.hid (below_alloc (Below.refl W.heap.size W) (.cells (nc n).toArray 39))
  have C := Lib.hid (hasW 36 _ _ _ v xs (hv.keep BX.out) hl (tells_inW n b2 W.heap.size _ (h2.alloc _) (BlkW.new W _ _)))
  obtain ⟨ao, cp, rfl⟩ := hv.slice
  have p0 := h1.cell 0
  have z1 := h1.lt
  simp only [List.getElem?_toArray, List.getElem?_cons_zero] at p0
  clear hv h1 h2
  unfold nv
  go_enter Try.func34, Try.ntmps34
  go_wp2_with fail
  refine C.out.mono ?_
  rintro e w1 ⟨rfl, hb⟩
  have B1 := Lib.hid (below_trans BX.out hb)
  clear hb p0
  go_wp2
  go_ret
  exact ⟨rfl, B1.out⟩
/-- What among answers: a function that tells whether one of the list keeps a note. -/
theorem amongW (v : Value) (xs : List Wd) (W : World) (hv : RowC wc 5 W v xs) (hl : xs.length ≤ 200) :
    Calls Try.prog 23 #[v, .func (.func 24) #[] #[]] W fun e w' => ∃ cap, e = .returned (.func (.func 34) #[] cap) ∧ Hid (Tells 34 cap nv (fun n => xs.any fun k => slotK k n) w') ∧ Below W.heap.size W w' := by
  have B := Lib.hid (below_alloc (below_alloc (Below.refl W.heap.size W) (.cells #[v] 23)) (.cells #[.func (.func 24) #[] #[]] 54))
  have T : Hid (Tells 34 #[.pointer (some ⟨W.heap.size, 0, none⟩), .pointer (some ⟨W.heap.size + 1, 0, none⟩)] nv (fun n => xs.any fun k => slotK k n) ((W.alloc (.cells #[v] 23)).alloc (.cells #[.func (.func 24) #[] #[]] 54))) := by
    obtain ⟨k1, k2⟩ := blk2 W #[v] #[.func (.func 24) #[] #[]] 23 54
    refine ⟨fun x w => by kernel_rfl, fun n w hb => ?_⟩
    exact amW n _ _ w v xs ((hv.keep B.out).keep hb) hl (k1.below hb) (k2.below hb)
  obtain ⟨ao, cp, rfl⟩ := hv.slice
  clear hv
  go_enter Try.func23, Try.ntmps23
  go_wp2
  go_ret
  exact ⟨_, rfl, T, B.out⟩

/-! ### numbers -/
theorem inI (k : Int) (n : Nt) (b1 b2 : Nat) (w : World) (h1 : BlkW w b1 56 #[.func (.func 26) #[] #[]]) (h2 : BlkW w b2 39 (nc n).toArray) :
    Calls Try.prog 39 #[iv k, .pointer (some ⟨b1, 0, none⟩), .pointer (some ⟨b2, 0, none⟩)] w fun e w' => e = .returned (.bool (eraK k n)) ∧ Below w.heap.size w w' := by
  obtain ⟨q0, q1, q2, q3, q4, q5, q6⟩ := cell7 h2
  have p0 := h1.cell 0
  have z1 := h1.lt
  have z2 := h2.lt
  clear h1 h2
  simp only [List.getElem?_toArray, List.getElem?_cons_zero] at p0
  unfold iv
  go_enter Try.func39, Try.ntmps39
  go_wp2_with fail
  refine (eraKeeps_any k n _).mono ?_
  rintro e w1 ⟨rfl, hb⟩
  have B1 := Lib.hid (hb)
  clear hb q0 q1 q2 q3 q4 q5 q6 p0
  go_wp2
  go_ret
  exact ⟨rfl, B1.out⟩
theorem tells_inI (n : Nt) (b1 b2 : Nat) (W : World) (h1 : BlkW W b1 56 #[.func (.func 26) #[] #[]]) (h2 : BlkW W b2 39 (nc n).toArray) :
    Tells 39 #[.pointer (some ⟨b1, 0, none⟩), .pointer (some ⟨b2, 0, none⟩)] iv (fun k => eraK k n) W :=
  ⟨fun x w => by kernel_rfl, fun x w hb => inI x n b1 b2 w (h1.below hb) (h2.below hb)⟩
set_option maxRecDepth 100000 in
set_option maxHeartbeats 1000000 in
theorem idxI (F : FuncId) (cap : Array Value) (p : Int → Bool) (W : World) (v : Value) (xs : List Int) (hv : RowC ic 1 W v xs) (hl : xs.length ≤ 200) (hT : Tells F cap iv p W) :
    Calls Try.prog 45 #[v, .func (.func F) #[] cap] W (Found p xs W) := by
  have HV := Lib.hid hv
  have HT := Lib.hid hT
  have hk := hT.1
  obtain ⟨ao, cp, rfl⟩ := hv.slice
  clear hv hT
  go_enter Try.func45, Try.ntmps45
  go_wp2
  go_loopw [8] (fun vi wr => IdxRel p xs W vi wr) (fun vi _ => xs.length - (intOf vi).toNat)
  case atStart => exact ⟨0, Nat.zero_le _, rfl, by simp, Below.refl _ _⟩
  case round =>
    obtain ⟨k, hkl, rfl, hany, hbel⟩ := hrel
    obtain ⟨wo, rfl⟩ : ∃ wo : World, wo = wr := ⟨_, rfl⟩
    have HB := Lib.hid hbel
    have HA := Lib.hid hany
    clear hany hbel
    by_cases hlt : k < xs.length
    · rcases HV.out with ⟨_, e⟩ | ⟨b, off, cap', e, hbx, hcap, hcell⟩
      · subst e; exact absurd hlt (Nat.not_lt_zero _)
      · injection e with e1 e2 e3
        subst e1
        have hc := rangeAt_block (hcell k hlt) (HB.out.block b hbx)
        have HN := Lib.hid (any_take_succ p xs k hlt)
        have HH := Lib.hid (fun hp => any_hit p xs k hlt hp)
        obtain ⟨a, ha⟩ : ∃ a, a = xs[k] := ⟨_, rfl⟩
        rw [← ha] at hc HN HH
        rw [Nat.mul_one] at hc
        have hcs := ic_cells hc
        obtain ⟨q0, _⟩ := hcs
        clear hc hcell ha e2 e3
        have j1 : (k : Int) < xs.length := by omega
        go_wp2_with fail
        refine (HT.out.2 a _ HB.out).mono ?_
        rintro e w1 ⟨rfl, hb⟩
        have B1 := Lib.hid (HB.out.trans (hb.mono HB.out.size))
        clear hb q0
        cases hp : p a with
        | true =>
          have H1 := Lib.hid (HH.out hp)
          clear hp
          go_wp2
          go_ret
          exact ⟨k, rfl, by rw [H1.out]; simp, B1.out⟩
        | false =>
          rw [hp] at HN
          clear hp
          go_wp2
          go_roundw
          case rel => exact ⟨k + 1, by omega, by go_num, by rw [HN.out, HA.out]; rfl, B1.out⟩
          case measure => simp [intOf]; omega
    · obtain rfl : k = xs.length := by omega
      go_wp2
      go_ret
      exact ⟨-1, rfl, by have h := HA.out; rw [List.take_length] at h; rw [h]; rfl, HB.out⟩
theorem hasI (F : FuncId) (cap : Array Value) (p : Int → Bool) (W : World) (v : Value) (xs : List Int) (hv : RowC ic 1 W v xs) (hl : xs.length ≤ 200) (hT : Tells F cap iv p W) :
    Calls Try.prog 38 #[v, .func (.func F) #[] cap] W fun e w' => e = .returned (.bool (xs.any p)) ∧ Below W.heap.size W w' := by
  have C := idxI F cap p W v xs hv hl hT
  obtain ⟨ao, cp, rfl⟩ := hv.slice
  clear hv hT
  go_enter Try.func38, Try.ntmps38
  go_wp2_with fail
  refine C.mono ?_
  rintro e w1 ⟨i, rfl, hi, hb⟩
  have HI := Lib.hid hi
  clear hi C
  go_wp2
  go_ret
  exact ⟨by rw [← HI.out]; rfl, hb.out⟩
theorem amI (n : Nt) (b1 b2 : Nat) (W : World) (v : Value) (xs : List Int) (hv : RowC ic 1 W v xs) (hl : xs.length ≤ 200) (h1 : BlkW W b1 24 #[v]) (h2 : BlkW W b2 56 #[.func (.func 26) #[] #[]]) :
    Calls Try.prog 37 #[nv n, .pointer (some ⟨b1, 0, none⟩), .pointer (some ⟨b2, 0, none⟩)] W fun e w' => e = .returned (.bool (xs.any fun k => eraK k n)) ∧ Below W.heap.size W w' := by
  have BX := Lib.hid (below_alloc (Below.refl W.heap.size W) (.cells (nc n).toArray 39))
  have C := Lib.hid (hasI 39 _ _ _ v xs (hv.keep BX.out) hl (tells_inI n b2 W.heap.size _ (h2.alloc _) (BlkW.new W _ _)))
  obtain ⟨ao, cp, rfl⟩ := hv.slice
  have p0 := h1.cell 0
  have z1 := h1.lt
  simp only [List.getElem?_toArray, List.getElem?_cons_zero] at p0
  clear hv h1 h2
  unfold nv
  go_enter Try.func37, Try.ntmps37
  go_wp2_with fail
  refine C.out.mono ?_
  rintro e w1 ⟨rfl, hb⟩
  have B1 := Lib.hid (below_trans BX.out hb)
  clear hb p0
  go_wp2
  go_ret
  exact ⟨rfl, B1.out⟩
/-- What among answers: a function that tells whether one of the list keeps a note. -/
theorem amongI (v : Value) (xs : List Int) (W : World) (hv : RowC ic 1 W v xs) (hl : xs.length ≤ 200) :
    Calls Try.prog 25 #[v, .func (.func 26) #[] #[]] W fun e w' => ∃ cap, e = .returned (.func (.func 37) #[] cap) ∧ Hid (Tells 37 cap nv (fun n => xs.any fun k => eraK k n) w') ∧ Below W.heap.size W w' := by
  have B := Lib.hid (below_alloc (below_alloc (Below.refl W.heap.size W) (.cells #[v] 24)) (.cells #[.func (.func 26) #[] #[]] 56))
  have T : Hid (Tells 37 #[.pointer (some ⟨W.heap.size, 0, none⟩), .pointer (some ⟨W.heap.size + 1, 0, none⟩)] nv (fun n => xs.any fun k => eraK k n) ((W.alloc (.cells #[v] 24)).alloc (.cells #[.func (.func 26) #[] #[]] 56))) := by
    obtain ⟨k1, k2⟩ := blk2 W #[v] #[.func (.func 26) #[] #[]] 24 56
    refine ⟨fun x w => by kernel_rfl, fun n w hb => ?_⟩
    exact amI n _ _ w v xs ((hv.keep B.out).keep hb) hl (k1.below hb) (k2.below hb)
  obtain ⟨ao, cp, rfl⟩ := hv.slice
  clear hv
  go_enter Try.func25, Try.ntmps25
  go_wp2
  go_ret
  exact ⟨_, rfl, T, B.out⟩

/-! ### spans -/
theorem inS (k : Sp) (n : Nt) (b1 b2 : Nat) (w : World) (h1 : BlkW w b1 58 #[.func (.func 28) #[] #[]]) (h2 : BlkW w b2 39 (nc n).toArray) :
    Calls Try.prog 41 #[sv k, .pointer (some ⟨b1, 0, none⟩), .pointer (some ⟨b2, 0, none⟩)] w fun e w' => e = .returned (.bool (spanK k n)) ∧ Below w.heap.size w w' := by
  obtain ⟨q0, q1, q2, q3, q4, q5, q6⟩ := cell7 h2
  have p0 := h1.cell 0
  have z1 := h1.lt
  have z2 := h2.lt
  clear h1 h2
  simp only [List.getElem?_toArray, List.getElem?_cons_zero] at p0
  unfold sv
  go_enter Try.func41, Try.ntmps41
  go_wp2_with fail
  refine (spanKeeps_any k n _).mono ?_
  rintro e w1 ⟨rfl, hb⟩
  have B1 := Lib.hid (below_trans (below_alloc (Below.refl w.heap.size w) (.cells (sc k).toArray 41)) hb)
  clear hb q0 q1 q2 q3 q4 q5 q6 p0
  go_wp2
  go_ret
  exact ⟨rfl, B1.out⟩
theorem tells_inS (n : Nt) (b1 b2 : Nat) (W : World) (h1 : BlkW W b1 58 #[.func (.func 28) #[] #[]]) (h2 : BlkW W b2 39 (nc n).toArray) :
    Tells 41 #[.pointer (some ⟨b1, 0, none⟩), .pointer (some ⟨b2, 0, none⟩)] sv (fun k => spanK k n) W :=
  ⟨fun x w => by kernel_rfl, fun x w hb => inS x n b1 b2 w (h1.below hb) (h2.below hb)⟩
set_option maxRecDepth 100000 in
set_option maxHeartbeats 1000000 in
theorem idxS (F : FuncId) (cap : Array Value) (p : Sp → Bool) (W : World) (v : Value) (xs : List Sp) (hv : RowC sc 3 W v xs) (hl : xs.length ≤ 200) (hT : Tells F cap sv p W) :
    Calls Try.prog 42 #[v, .func (.func F) #[] cap] W (Found p xs W) := by
  have HV := Lib.hid hv
  have HT := Lib.hid hT
  have hk := hT.1
  obtain ⟨ao, cp, rfl⟩ := hv.slice
  clear hv hT
  go_enter Try.func42, Try.ntmps42
  go_wp2
  go_loopw [8] (fun vi wr => IdxRel p xs W vi wr) (fun vi _ => xs.length - (intOf vi).toNat)
  case atStart => exact ⟨0, Nat.zero_le _, rfl, by simp, Below.refl _ _⟩
  case round =>
    obtain ⟨k, hkl, rfl, hany, hbel⟩ := hrel
    obtain ⟨wo, rfl⟩ : ∃ wo : World, wo = wr := ⟨_, rfl⟩
    have HB := Lib.hid hbel
    have HA := Lib.hid hany
    clear hany hbel
    by_cases hlt : k < xs.length
    · rcases HV.out with ⟨_, e⟩ | ⟨b, off, cap', e, hbx, hcap, hcell⟩
      · subst e; exact absurd hlt (Nat.not_lt_zero _)
      · injection e with e1 e2 e3
        subst e1
        have hc := rangeAt_block (hcell k hlt) (HB.out.block b hbx)
        have HN := Lib.hid (any_take_succ p xs k hlt)
        have HH := Lib.hid (fun hp => any_hit p xs k hlt hp)
        obtain ⟨a, ha⟩ : ∃ a, a = xs[k] := ⟨_, rfl⟩
        rw [← ha] at hc HN HH
        have hcs := sc_cells hc
        obtain ⟨q0, q1, q2⟩ := hcs
        clear hc hcell ha e2 e3
        have j1 : (k : Int) < xs.length := by omega
        go_wp2_with fail
        refine (HT.out.2 a _ HB.out).mono ?_
        rintro e w1 ⟨rfl, hb⟩
        have B1 := Lib.hid (HB.out.trans (hb.mono HB.out.size))
        clear hb q0 q1 q2
        cases hp : p a with
        | true =>
          have H1 := Lib.hid (HH.out hp)
          clear hp
          go_wp2
          go_ret
          exact ⟨k, rfl, by rw [H1.out]; simp, B1.out⟩
        | false =>
          rw [hp] at HN
          clear hp
          go_wp2
          go_roundw
          case rel => exact ⟨k + 1, by omega, by go_num, by rw [HN.out, HA.out]; rfl, B1.out⟩
          case measure => simp [intOf]; omega
    · obtain rfl : k = xs.length := by omega
      go_wp2
      go_ret
      exact ⟨-1, rfl, by have h := HA.out; rw [List.take_length] at h; rw [h]; rfl, HB.out⟩
theorem hasS (F : FuncId) (cap : Array Value) (p : Sp → Bool) (W : World) (v : Value) (xs : List Sp) (hv : RowC sc 3 W v xs) (hl : xs.length ≤ 200) (hT : Tells F cap sv p W) :
    Calls Try.prog 29 #[v, .func (.func F) #[] cap] W fun e w' => e = .returned (.bool (xs.any p)) ∧ Below W.heap.size W w' := by
  have C := idxS F cap p W v xs hv hl hT
  obtain ⟨ao, cp, rfl⟩ := hv.slice
  clear hv hT
  go_enter Try.func29, Try.ntmps29
  go_wp2_with fail
  refine C.mono ?_
  rintro e w1 ⟨i, rfl, hi, hb⟩
  have HI := Lib.hid hi
  clear hi C
  go_wp2
  go_ret
  exact ⟨by rw [← HI.out]; rfl, hb.out⟩
theorem amS (n : Nt) (b1 b2 : Nat) (W : World) (v : Value) (xs : List Sp) (hv : RowC sc 3 W v xs) (hl : xs.length ≤ 200) (h1 : BlkW W b1 25 #[v]) (h2 : BlkW W b2 58 #[.func (.func 28) #[] #[]]) :
    Calls Try.prog 40 #[nv n, .pointer (some ⟨b1, 0, none⟩), .pointer (some ⟨b2, 0, none⟩)] W fun e w' => e = .returned (.bool (xs.any fun k => spanK k n)) ∧ Below W.heap.size W w' := by
  have BX := Lib.hid (below_alloc (Below.refl W.heap.size W) (.cells (nc n).toArray 39))
  have C := Lib.hid (hasS 41 _ _ _ v xs (hv.keep BX.out) hl (tells_inS n b2 W.heap.size _ (h2.alloc _) (BlkW.new W _ _)))
  obtain ⟨ao, cp, rfl⟩ := hv.slice
  have p0 := h1.cell 0
  have z1 := h1.lt
  simp only [List.getElem?_toArray, List.getElem?_cons_zero] at p0
  clear hv h1 h2
  unfold nv
  go_enter Try.func40, Try.ntmps40
  go_wp2_with fail
  refine C.out.mono ?_
  rintro e w1 ⟨rfl, hb⟩
  have B1 := Lib.hid (below_trans BX.out hb)
  clear hb p0
  go_wp2
  go_ret
  exact ⟨rfl, B1.out⟩
/-- What among answers: a function that tells whether one of the list keeps a note. -/
theorem amongS (v : Value) (xs : List Sp) (W : World) (hv : RowC sc 3 W v xs) (hl : xs.length ≤ 200) :
    Calls Try.prog 27 #[v, .func (.func 28) #[] #[]] W fun e w' => ∃ cap, e = .returned (.func (.func 40) #[] cap) ∧ Hid (Tells 40 cap nv (fun n => xs.any fun k => spanK k n) w') ∧ Below W.heap.size W w' := by
  have B := Lib.hid (below_alloc (below_alloc (Below.refl W.heap.size W) (.cells #[v] 25)) (.cells #[.func (.func 28) #[] #[]] 58))
  have T : Hid (Tells 40 #[.pointer (some ⟨W.heap.size, 0, none⟩), .pointer (some ⟨W.heap.size + 1, 0, none⟩)] nv (fun n => xs.any fun k => spanK k n) ((W.alloc (.cells #[v] 25)).alloc (.cells #[.func (.func 28) #[] #[]] 58))) := by
    obtain ⟨k1, k2⟩ := blk2 W #[v] #[.func (.func 28) #[] #[]] 25 58
    refine ⟨fun x w => by kernel_rfl, fun n w hb => ?_⟩
    exact amS n _ _ w v xs ((hv.keep B.out).keep hb) hl (k1.below hb) (k2.below hb)
  obtain ⟨ao, cp, rfl⟩ := hv.slice
  clear hv
  go_enter Try.func27, Try.ntmps27
  go_wp2
  go_ret
  exact ⟨_, rfl, T, B.out⟩
end Go.Proofs.Ytlhhjbjdinimjaa
