/- rite: spans that are compared and stored; leave. A template (fill.py). -/
/- slices.Index and slices.Delete at notes. A template (fill.py). -/
import Derived.Test.YtihjklimcchkhaaGreatDoorRB
import Derived.Test.YtihjklimcchkhaaGreatDoorVA
import Derived.Deep.RegionLaw
import Derived.Lib.SliceRun
import Derived.RegionTactic
namespace Go.Proofs.YtihjklimcchkhaaGreatDoor
open Go.RowKit Go.Extern.Stop Go.Stop Go.Extern Go.Sort
theorem sHeld : Tryz.prog.stoodInHeld 124 = false := by kernel_rfl
theorem sGuard : Tryz.prog.eqGuardType Tryz.prog.depth 124 = false := by kernel_rfl
theorem sT : Tryz.prog.underlying 124 = some (.struct (Tryz.prog.fieldsOf 124)) := by kernel_rfl
theorem sF : (Tryz.prog.fieldsOf 124).toList = [{ name := "Is", type := 4, offset := 0, embedded := false, tag := "", pkgPath := "", byteOffset := 0 },
        { name := "Low", type := 3, offset := 1, embedded := false, tag := "", pkgPath := "", byteOffset := 8 },
        { name := "High", type := 3, offset := 2, embedded := false, tag := "", pkgPath := "", byteOffset := 16 }] := by kernel_rfl
def spB (b : Bool) (l h : Int) (b' : Bool) (l' h' : Int) : Bool := b == b' && l == l' && h == h'
theorem spEqIn (b : Bool) (l h : Int) (b' : Bool) (l' h' : Int) (w : World) : (Op.equalIn 10000 124 (.agg #[.bool b, .int .i64 l, .int .i64 h]) (.agg #[.bool b', .int .i64 l', .int .i64 h'])).run Tryz.prog w = .ok (spB b l h b' l' h') w := by
  rw [run_equalIn_agg _ _ _ _ _ sT sHeld, sF]
  have e1 : ∀ (x y : Int) (w : World), (Op.equalIn 9999 3 (.int .i64 x) (.int .i64 y)).run Tryz.prog w = .ok (x == y) w := fun x y w => run_equalIn_int w 9998 3 .i64 .i64 x y Tryz.underlying3
  have e2 : ∀ (x y : Bool) (w : World), (Op.equalIn 9999 4 (.bool x) (.bool y)).run Tryz.prog w = .ok (x == y) w := fun x y w => run_equalIn_bool' w 9998 4 x y Tryz.underlying4
  simp only [Op.eqFields]
  simp [go_sem, e1, e2]
  unfold spB
  (repeat' split) <;> simp_all
theorem sp_ne (b : Bool) (l h : Int) (b' : Bool) (l' h' : Int) (w : World) : (binOp .neq 124 (.agg #[.bool b, .int .i64 l, .int .i64 h]) (.agg #[.bool b', .int .i64 l', .int .i64 h'])).run Tryz.prog w = .ok (.bool (!(spB b l h b' l' h'))) w := by
  rw [run_neq_struct, spEqIn]; rfl
theorem spB_iff (a b : Sp) : spB a.is a.low a.high b.is b.low b.high = decide (a = b) := by
  rw [Bool.eq_iff_iff, decide_eq_true_eq]
  cases a; cases b
  simp [spB, and_assoc]
section
variable {w : World} {r : Nat} {sv fv nv : Value} {m : Rt}
theorem RtAt.span3 (h : RtAt w r sv fv nv m) : w.cell? ⟨r, 102, none⟩ = some (.bool m.span.is) ∧ w.cell? ⟨r, 103, none⟩ = some (.int .i64 m.span.low) ∧ w.cell? ⟨r, 104, none⟩ = some (.int .i64 m.span.high) :=
  ⟨h.cell 102 (by kernel_rfl), h.cell 103 (by kernel_rfl), h.cell 104 (by kernel_rfl)⟩
/-! ### leave -/
def keptL (k : Nat → Wd) : List Wd := [k 0, k 1, k 2, k 3, k 4, k 5, k 6, k 7, k 8]
def nz (d : Wd) : Bool := decide (d ≠ zw)
theorem fk_some (k : Nat → Wd) : ∀ j, ∀ h : j < (keptL k).length, ((keptL k).take j).any nz = false → nz (keptL k)[j] = true → firstKept k 0 9 = some j ∧ j < 9 := by
  intro j h
  have hj : j < 9 := h
  match j, hj with
  | 0, _ | 1, _ | 2, _ | 3, _ | 4, _ | 5, _ | 6, _ | 7, _ | 8, _ =>
    intro h1 h2
    have h3 := of_decide_eq_true h2
    simp only [keptL, List.getElem_cons_succ, List.getElem_cons_zero, ne_eq] at h3
    simp only [keptL, List.take_succ_cons, List.take_zero, List.any_cons, List.any_nil, Bool.or_eq_false_iff, nz, decide_eq_false_iff_not, Decidable.not_not] at h1
    clear h2
    simp_all [firstKept]
theorem fk_none (k : Nat → Wd) (h : (keptL k).any nz = false) : firstKept k 0 9 = none := by
  simp only [keptL, List.any_cons, List.any_nil, Bool.or_eq_false_iff, nz, decide_eq_false_iff_not, Decidable.not_not] at h
  simp_all [firstKept]
theorem nz_any (d : Wd) (w : World) : Calls Tryz.prog 116 #[Sv.wv d] w fun e w' => e = .returned (.bool (nz d)) ∧ Below w.heap.size w w' := by
  have k1 := noHeld
  have k2 := noGuard
  have k3 := ne23
  have e := eqB_iff d zw
  unfold zw at e
  dsimp only at e
  have e2 : nz d = !decide (d = zw) := by unfold nz; by_cases h : d = zw <;> simp [h]
  rw [e2]
  unfold zw
  rw [← e]
  clear e e2
  unfold Sv.wv
  go_enter Tryz.func116, Tryz.ntmps116
  go_wp2
  go_ret
  exact ⟨rfl, (Below.refl _ _).alloc (Nat.le_refl _) _⟩
theorem tells_nz (W : World) : Sv.Tells 116 #[] Sv.wv nz W := ⟨fun x w => by kernel_rfl, fun x w _ => nz_any x w⟩
theorem RtAt.keptRow (h : RtAt w r sv fv nv m) : Sv.RowC Sv.wc 5 w (.slice (some ⟨r, 57, none⟩) 9 9) (keptL m.kept) := by
  refine .inr ⟨r, 57, 9, rfl, BlkW.lt h, Nat.le_refl 9, fun i hi => ?_⟩
  have hi : i < 9 := hi
  match i, hi with
  | 0, _ | 1, _ | 2, _ | 3, _ | 4, _ | 5, _ | 6, _ | 7, _ | 8, _ => exact h.range _ _ (by kernel_rfl)
theorem wzw : wv zw = .agg #[.int .i64 0, .int .i64 0, .int .i64 0, .int .i64 0, .bool false] := rfl
set_option maxRecDepth 100000 in
set_option maxHeartbeats 1000000 in
theorem leave_say (h : RtAt w r sv fv nv m) (hm : m.me < 6) (n : Nat) (hf : firstKept m.kept 0 9 = some n) :
    Calls Tryz.prog 87 #[.pointer (some ⟨r, 0, none⟩)] w (Leaf w r sv fv nv (m.say n zw)) := by
  have HR := Lib.hid h
  have HF := Lib.hid hf
  have C := Lib.hid (Sv.idxW 116 #[] nz w _ (keptL m.kept) h.keptRow (Nat.le_of_ble_eq_true rfl) (tells_nz w))
  clear h hf
  go_enter Tryz.func87, Tryz.ntmps87
  go_wp2_with fail
  refine C.out.mono ?_
  rintro e w1 ⟨i, rfl, hi, hj, hb⟩
  have HB := Lib.hid hb.out
  have hi0 : (0 : Int) ≤ i ∧ i = (n : Int) ∧ n < 9 := by
    by_cases h0 : 0 ≤ i
    · obtain ⟨j, hlt, e1, e2, e3⟩ := hj h0
      have := fk_some _ j hlt e2 e3
      rw [HF.out] at this
      have e4 : n = j := by simpa using this.1
      exact ⟨h0, by rw [e1, e4], e4 ▸ this.2⟩
    · rw [decide_eq_false h0] at hi
      have := fk_none _ hi.symm
      rw [HF.out] at this; cases this
  obtain ⟨h0, rfl, hn⟩ := hi0
  have HR1 := Lib.hid (HR.out.below HB.out)
  clear hi hj hb C HR
  go_wp2_with fail
  rw [← wzw]
  refine (say_any HR1.out hm n hn zw).mono ?_
  rintro e w3 ⟨rfl, h1, h2⟩
  go_wp2
  go_end0
  exact ⟨rfl, h1, Lib.hid ((Only.of_below HB.out).trans h2.out)⟩
set_option maxRecDepth 100000 in
set_option maxHeartbeats 1000000 in
theorem leave_ok (h : RtAt w r sv fv nv m) (hf : firstKept m.kept 0 9 = none) (hs : m.span = zs) :
    Calls Tryz.prog 87 #[.pointer (some ⟨r, 0, none⟩)] w (Leaf w r nilS nilS nv m.ok) := by
  have HR := Lib.hid h
  have HF := Lib.hid hf
  have C := Lib.hid (Sv.idxW 116 #[] nz w _ (keptL m.kept) h.keptRow (Nat.le_of_ble_eq_true rfl) (tells_nz w))
  have HS := Lib.hid hs
  have k1 := sHeld
  have k2 := sGuard
  have k3 := sp_ne
  clear h hf hs
  go_enter Tryz.func87, Tryz.ntmps87
  go_wp2_with fail
  refine C.out.mono ?_
  rintro e w1 ⟨i, rfl, hi, hj, hb⟩
  have HB := Lib.hid hb.out
  have hi0 : ¬ (0 : Int) ≤ i := fun h0 => by
    obtain ⟨j, hlt, e1, e2, e3⟩ := hj h0
    have := fk_some _ j hlt e2 e3
    rw [HF.out] at this
    cases this.1
  have HR1 := Lib.hid (HR.out.below HB.out)
  obtain ⟨s0, s1, s2⟩ := HR1.out.span3
  rw [HS.out] at s0 s1 s2
  have e1 : spB false 0 0 false 0 0 = true := rfl
  clear hi hj hb C HR
  unfold zs at s0 s1 s2
  dsimp only at s0 s1 s2
  go_wp2_with fail
  refine (succeed_any HR1.out).mono ?_
  rintro e w3 ⟨rfl, h1, h2⟩
  go_wp2
  go_end0
  exact ⟨rfl, h1, Lib.hid ((Only.of_below HB.out).trans h2.out)⟩
end
end Go.Proofs.YtihjklimcchkhaaGreatDoor

namespace Go.Proofs.YtihjklimcchkhaaGreatDoor.Sv
open Go.RowKit Go.Extern.Stop Go.Stop Go.Extern Go.Sort
theorem run_clear_one {P : Program} (w : World) (t e ty : TypeId) (z : Value) (ht : P.underlying t = some (.slice e)) (hv : ∀ w, (zeroValue e).run P w = .ok z w) (b o c : Nat) (cs : List Value) (hz : z.cells = cs.toArray) (h1 : ∀ u ∈ cs, u.oneCell' = true)
    (hc : ∀ j, j < cs.length → (w.cell? ⟨b, o + j, none⟩).isSome = true) (hf : ∀ j, j < cs.length → w.frozen? ⟨b, o + j, none⟩ = false) :
    (Builtin.clear_ #[t] ty #[.slice (some ⟨b, o, none⟩) 1 c]).run P w = .ok (.tuple #[]) (w.setCells b o cs) := by
  have hzc : (Builtin.zeroCells z.cells 1).toList = cs := by
    rw [hz]
    simp [Builtin.zeroCells]
    apply List.ext_getElem
    · simp
    · intro i h1 h2
      simp at h1
      simp [Nat.mod_eq_of_lt h1, h1]
  have hst := run_storeCells_cells (P := P) b o cs 0 w hc hf h1
  simp only [Nat.add_zero] at hst
  simp [Builtin.clear_, run_underlying ht, hv, hzc, hst]
def zn : Nt := ⟨zw, 0, 0⟩
theorem zeroN (w : World) : (zeroValue 74).run Tryz.prog w = .ok (nv zn) w := by kernel_rfl
/-- A row of the call's own by its cells. -/
theorem own_of_cells {w : World} {base g : Nat} {e : TypeId} {k n cap : Nat} {cur : Array Value} {xs : List Value} (hb : BlkW w g e cur) (hc : cur.size = cap * k) (hn : n ≤ cap) (hm : cap ≤ maxLen) (hg : base ≤ g) (hl : xs.length = n * k)
    (h : ∀ j v, xs[j]? = some v → w.cell? ⟨g, j, none⟩ = some v) : w.ownsRow base e k (.slice (some ⟨g, 0, none⟩) n cap) n xs := by
  refine ⟨hl, .inr ⟨g, cap, cur, rfl, hg, hb, hn, hm, hc, ?_⟩⟩
  have hs : n * k ≤ cur.size := by rw [hc]; exact Nat.mul_le_mul_right _ hn
  apply List.ext_getElem?
  intro j
  rcases Nat.lt_or_ge j (n * k) with hj | hj
  · rw [List.getElem?_take_of_lt hj, Array.getElem?_toList, ← hb.cell j]
    have hjx : j < xs.length := by omega
    rw [List.getElem?_eq_getElem hjx]
    exact h j _ (List.getElem?_eq_getElem hjx)
  · rw [List.getElem?_eq_none (by simp; omega), List.getElem?_eq_none (by omega)]
set_option maxRecDepth 100000 in
set_option maxHeartbeats 1000000 in
theorem delete_any (w : World) (base g cap i q n t : Nat) (xs : List Nt) (hq : q = i + 1) (hn : n = q + t) (hl : xs.length = n) (hown : OwnN w base (.slice (some ⟨g, 0, none⟩) n cap) xs) (hx : n ≤ 1100) :
    Calls Tryz.prog 168 #[.slice (some ⟨g, 0, none⟩) n cap, .int .i64 (i : Int), .int .i64 (q : Int)] w fun e w' => e = .returned (.slice (some ⟨g, 0, none⟩) (i + t) cap) ∧ Hid (OwnN w' base (.slice (some ⟨g, 0, none⟩) (i + t) cap) (xs.eraseIdx i)) ∧ Hid (Off (fun j => j = g) w w') := by
  obtain ⟨i0, hi0, hz0, hz01, hz02⟩ := info_parts infoNote
  have k1 : ((i : Int) == (q : Int)) = false := by simp; omega
  have k2 : (0 : Int) ≤ (i : Int) := by omega
  have k3 : (i : Int) ≤ (q : Int) := by omega
  have k4 : (q : Int) ≤ (n : Int) := by omega
  have k5 : (i : Int) ≤ (n : Int) := by omega
  have k6 : i ≤ n := by omega
  have k7 : q ≤ n := by omega
  have k8 : i ≤ q := by omega
  have hc : n ≤ cap ∧ cap ≤ maxLen := by
    rcases hown.2 with ⟨e, e2⟩ | ⟨_, _, _, e, _, _, h1, h2, _⟩
    · cases e
    · cases e; exact ⟨hl ▸ h1, h2⟩
  have k9 : (n : Int) ≤ (cap : Int) := by have := hc.1; omega
  have k10 : n ≤ cap := hc.1
  have HN := Lib.hid hn
  have HQ := Lib.hid hq
  clear hn hq
  have k16 : i ≤ cap := by omega
  have k17 : q ≤ cap := by omega
  have k11 : ¬ n = i := by have := HN.out; have := HQ.out; omega
  obtain ⟨cur, hcur, hcs⟩ : ∃ cur, BlkW w g 74 cur ∧ cur.size = cap * 7 := by
    rcases hown.2 with ⟨e, e2⟩ | ⟨_, _, cur, e, _, hb, _, _, h3, _⟩
    · cases e
    · cases e; exact ⟨cur, hb, h3⟩
  have hB := hown.2
  have hcell : ∀ j v, (flat nc xs)[j]? = some v → w.cell? ⟨g, j, none⟩ = some v := fun j v hv => by
    have hj : j < n * 7 := by
      have := (List.getElem?_eq_some_iff.1 hv).1
      rwa [flat_len nc_len, hl] at this
    have h0 : w.ownsRow base 74 7 (.slice (some ⟨g, 0, none⟩) n cap) n (flat nc xs) := by have h := hown; unfold OwnN at h; rw [hl] at h; exact h
    rw [h0.cellAt j hj]; exact hv
  obtain ⟨news, hnews⟩ : ∃ news, news = flat nc (xs.drop q) := ⟨_, rfl⟩
  have hlen : news.length = (n - q) * 7 := by rw [hnews, flat_len nc_len, List.length_drop, hl]
  have hsplit : flat nc xs = flat nc (xs.take q) ++ news := by rw [hnews, ← flat_app, List.take_append_drop]
  have htq : (flat nc (xs.take q)).length = q * 7 := by rw [flat_len nc_len, List.length_take, hl, Nat.min_eq_left k7]
  have hget : ∀ j u, news[j]? = some u → w.cell? ⟨g, q * 7 + j, none⟩ = some u := fun j u hu => by
    refine hcell _ _ ?_
    rw [hsplit, List.getElem?_append_right (by omega), htq, Nat.add_sub_cancel_left]
    exact hu
  obtain ⟨A, hA, hsrc⟩ : ∃ A : Addr, (if cap = q then some (⟨g, 0, none⟩ : Addr) else some ⟨g, q * 7, none⟩) = some A ∧ Hid (∀ j u, news[j]? = some u → w.drew.cell? (A.add j) = some u) := by
    by_cases h : cap = q
    · refine ⟨⟨g, 0, none⟩, by simp [h], fun j u hu => ?_⟩
      have h0 : news.length = 0 := by rw [hlen]; omega
      rw [List.length_eq_zero_iff.1 h0] at hu
      simp at hu
    · refine ⟨⟨g, q * 7, none⟩, by simp [h], fun j u hu => ?_⟩
      rw [Addr.add_mid]
      exact hget j u hu
  have s1 : Hid (news.length = (n - q) * 7) := Lib.hid hlen
  have s2 : Hid (∀ u ∈ news, u.oneCell' = true) := Lib.hid (fun u hu => by rw [hnews] at hu; exact flat_one nc_one _ u hu)
  have s3 : Hid (∀ j, j < news.length → (w.drew.cell? ⟨g, 0 + i * 7 + j, none⟩).isSome = true ∧ w.drew.frozen? ⟨g, 0 + i * 7 + j, none⟩ = false) := Lib.hid (fun j hj => by
    have hj2 : i * 7 + j < cur.size := by
      rw [hcs]
      have : i * 7 + j < n * 7 := by have := HQ.out; omega
      have : n * 7 ≤ cap * 7 := Nat.mul_le_mul_right _ k10
      omega
    have h1 := hcur.cell (0 + i * 7 + j)
    rw [Nat.zero_add, Array.getElem?_eq_getElem hj2] at h1
    rw [Nat.zero_add]
    exact ⟨by show (w.cell? _).isSome = true; rw [h1]; rfl, hcur.frozen _⟩)
  obtain ⟨W1, hW1⟩ : ∃ W1, W1 = w.drew.setCells g (0 + i * 7) news := ⟨_, rfl⟩
  obtain ⟨cur1, hc1, hcs1⟩ := blk_sets (w := w.drew) news (0 + i * 7) (show BlkW w.drew g 74 cur from hcur)
  rw [← hW1] at hc1
  have hlast : (i + (n - q)) * 7 + 7 ≤ cap * 7 := by
    have := HN.out; have := HQ.out
    have : n * 7 ≤ cap * 7 := Nat.mul_le_mul_right _ k10
    omega
  have hcl : ∀ ty, (Builtin.clear_ #[42] ty #[.slice (some ⟨g, (i + (n - q)) * 7, none⟩) (n - (i + (n - q))) (cap - (i + (n - q)))]).run Tryz.prog W1 = .ok (.tuple #[]) (W1.setCells g ((i + (n - q)) * 7) (nc zn)) := fun ty => by
    have e : n - (i + (n - q)) = 1 := by have := HN.out; have := HQ.out; omega
    rw [e]
    refine run_clear_one W1 _ 74 ty (nv zn) Tryz.underlying42 zeroN g _ _ (nc zn) rfl (nc_one zn) (fun j hj => ?_) (fun j _ => hc1.frozen _)
    have hj7 : j < 7 := hj
    have h1 := hc1.cell ((i + (n - q)) * 7 + j)
    rw [Array.getElem?_eq_getElem (by rw [hcs1, hcs]; omega)] at h1
    rw [h1]; rfl
  have k12 : i + (n - q) ≤ cap := by have := HN.out; have := HQ.out; omega
  have k13 : i + (n - q) ≤ n := by have := HN.out; have := HQ.out; omega
  have k14 : ((i + (n - q) : Nat) : Int) ≤ (n : Int) := by omega
  have k15 : ¬ cap = i + (n - q) := by have := HN.out; have := HQ.out; omega
  have X : Hid (W1 = w.drew.setCells g (0 + i * 7) news) := Lib.hid hW1
  have HC1 := Lib.hid hc1
  have HG := Lib.hid hget
  have HCELL := Lib.hid hcell
  have HSP := Lib.hid hsplit
  have HOWN := Lib.hid hown
  have HNW := Lib.hid hnews
  have HCS := Lib.hid (hcs1.trans hcs)
  clear hW1 hc1 hget hcell hsplit hown hnews hcs1 hcs hlast htq hB hcur hlen
  go_enter Tryz.func168, Tryz.ntmps168
  go_wp2_with fail
  go_region_law (refine step_append_room rfl (.tmp 22) (.tmp 25) 42 rfl 74 i0 7 Tryz.underlying42 hi0 hz01 g 0 i cap (by simp [Act.eval, Act.put]) A (n - q) (cap - q) news (by simp [Act.eval, Act.put, hA]) s1.out hsrc.out s2.out (by omega) s3.out ?_; rw [← X.out])
  go_wp2
  have ht : n - q = t := by have := HN.out; omega
  rw [ht]
  have hthere : w.drew.there g (0 + i * 7) news.length := s3.out
  have hr1 : W1.rangeAt g (i * 7) news := by
    have := World.rangeAt_setCells_same w.drew g (0 + i * 7) news hthere
    rw [← X.out, Nat.zero_add] at this
    exact this
  have hl1 : news.length = t * 7 := by rw [s1.out, ht]
  have hlow : ∀ j v, j < i * 7 → w.cell? ⟨g, j, none⟩ = some v → W1.cell? ⟨g, j, none⟩ = some v := fun j v hj hv => by
    have h0 : w.drew.rangeAt g j [v] := fun k u hu => by
      match k with
      | 0 => simp at hu; subst hu; exact hv
      | k + 1 => simp at hu
    have := World.rangeAt_setCells_apart h0 g (0 + i * 7) news (.inr (.inl (by simp; omega)))
    rw [← X.out] at this
    exact this 0 v rfl
  have hup : ∀ j v, j < (i + t) * 7 → W1.cell? ⟨g, j, none⟩ = some v → (W1.setCells g ((i + t) * 7) (nc zn)).cell? ⟨g, j, none⟩ = some v := fun j v hj hv => by
    have h0 : W1.rangeAt g j [v] := fun k u hu => by
      match k with
      | 0 => simp at hu; subst hu; exact hv
      | k + 1 => simp at hu
    exact World.rangeAt_setCells_apart h0 g ((i + t) * 7) (nc zn) (.inr (.inl (by simp; omega))) 0 v rfl
  obtain ⟨cur2, hc2, hcs2⟩ := blk_sets (w := W1) (nc zn) ((i + t) * 7) HC1.out
  have hbase : base ≤ g := (HOWN.out.lt g rfl).1
  have hel : (xs.eraseIdx i).length = i + t := by
    rw [List.length_eraseIdx_of_lt (by rw [hl]; have := HN.out; have := HQ.out; omega), hl]
    have := HN.out; have := HQ.out; omega
  have hflat : flat nc (xs.eraseIdx i) = flat nc (xs.take i) ++ news := by
    rw [List.eraseIdx_eq_take_drop_succ, flat_app, HNW.out, HQ.out]
  have hfi : (flat nc (xs.take i)).length = i * 7 := by rw [flat_len nc_len, List.length_take, hl, Nat.min_eq_left k6]
  have hfull : flat nc xs = flat nc (xs.take i) ++ flat nc (xs.drop i) := by rw [← flat_app, List.take_append_drop]
  go_ret
  refine ⟨rfl, Lib.hid ?_, Lib.hid ?_⟩
  · unfold OwnN
    rw [hel]
    refine own_of_cells hc2 (hcs2.trans HCS.out) (by have := HN.out; have := HQ.out; omega) hc.2 hbase (by rw [flat_len nc_len, hel]) fun j v hv => ?_
    rw [hflat] at hv
    rcases Nat.lt_or_ge j (i * 7) with hj | hj
    · rw [List.getElem?_append_left (by rw [hfi]; exact hj)] at hv
      refine hup j v (by omega) (hlow j v hj (HCELL.out j v ?_))
      rw [hfull, List.getElem?_append_left (by rw [hfi]; exact hj)]
      exact hv
    · rw [List.getElem?_append_right (by rw [hfi]; exact hj), hfi] at hv
      have hj2 := (List.getElem?_eq_some_iff.1 hv).1
      have := hr1 (j - i * 7) v hv
      rw [show i * 7 + (j - i * 7) = j by omega] at this
      exact hup j v (by omega) this
  · have O1 : Off (fun j => j = g) w W1 := by rw [X.out]; exact Off.sets (K := fun j => j = g) (.inl rfl) news (0 + i * 7) ((Off.refl _ w).then (Below.refl _ _).drew)
    exact Off.sets (K := fun j => j = g) (.inl rfl) (nc zn) ((i + t) * 7) O1
/-! ### Index -/
theorem cell7_of {w : World} {b off : Nat} {n : Nt} (h : w.rangeAt b off (nc n)) : w.cell? ⟨b, off, none⟩ = some (.int .i64 n.ref.slot) ∧ w.cell? ⟨b, off + 1, none⟩ = some (.int .i64 n.ref.gen) ∧ w.cell? ⟨b, off + 2, none⟩ = some (.int .i64 n.ref.tag) ∧ w.cell? ⟨b, off + 3, none⟩ = some (.int .i64 n.ref.num) ∧ w.cell? ⟨b, off + 4, none⟩ = some (.bool n.ref.mark) ∧ w.cell? ⟨b, off + 5, none⟩ = some (.int .i64 n.birth) ∧ w.cell? ⟨b, off + 6, none⟩ = some (.int .i64 n.death) :=
  ⟨h 0 _ rfl, h 1 _ rfl, h 2 _ rfl, h 3 _ rfl, h 4 _ rfl, h 5 _ rfl, h 6 _ rfl⟩
set_option maxRecDepth 100000 in
set_option maxHeartbeats 1000000 in
theorem index_any (w : World) (v : Value) (xs : List Nt) (x : Nt) (k0 : Nat) (hv : RowC nc 7 w v xs) (hl : xs.length ≤ 1100) (hk : k0 < xs.length) (hx : xs[k0] = x) (hb : ∀ j, ∀ h : j < k0, xs[j] ≠ x) :
    Calls Tryz.prog 167 #[v, nv x] w fun e w' => e = .returned (.int .i64 (k0 : Int)) ∧ Below w.heap.size w w' := by
  have HV := Lib.hid (hv.keep (below_alloc (Below.refl w.heap.size w) (.cells (nc x).toArray 74)))
  have HX := Lib.hid (BlkW.new w 74 (nc x).toArray)
  have HB0 := Lib.hid (below_alloc (Below.refl w.heap.size w) (.cells (nc x).toArray 74))
  have HN := Lib.hid hb
  have HE := Lib.hid hx
  have q1 := heldN
  have q2 := guardN
  have q3 := eqlN
  obtain ⟨ao, cp, rfl⟩ := hv.slice
  clear hv hb hx
  unfold nv
  go_enter Tryz.func167, Tryz.ntmps167
  go_wp2
  have hX := HX.out
  have hB0 := HB0.out
  have hV := HV.out
  clear HX HB0 HV
  dsimp only [nc] at hX hB0 hV
  generalize w.alloc (.cells #[.int .i64 x.ref.slot, .int .i64 x.ref.gen, .int .i64 x.ref.tag, .int .i64 x.ref.num, .bool x.ref.mark, .int .i64 x.birth, .int .i64 x.death] 74) = W at hX hB0 hV ⊢
  obtain ⟨b0, b1, b2, b3, b4, b5, b6⟩ := cell7_of (n := x) (b := w.heap.size) (off := 0) (w := W) (fun j v hv => by rw [Nat.zero_add, hX.cell j, List.getElem?_toArray]; exact hv)
  simp only [Nat.zero_add] at b1 b2 b3 b4 b5 b6
  have hg := hX.lt
  have hB := Lib.hid hB0
  have HV := Lib.hid hV
  clear hX hB0 hV
  generalize w.heap.size = g at b0 b1 b2 b3 b4 b5 b6 hg ⊢
  go_loopw [8] (fun vi wr => ∃ k : Nat, k ≤ k0 ∧ vi = .int .i64 (k : Int) ∧ Below W.heap.size W wr) (fun vi _ => xs.length - (intOf vi).toNat)
  case atStart => exact ⟨0, Nat.zero_le _, rfl, Below.refl _ _⟩
  case round =>
    obtain ⟨k, hkl, rfl, hbel⟩ := hrel
    obtain ⟨wo, rfl⟩ : ∃ wo : World, wo = wr := ⟨_, rfl⟩
    have HB := Lib.hid hbel
    clear hbel
    have hlt : k < xs.length := by omega
    rcases HV.out with ⟨_, e⟩ | ⟨b, off, cap', e, hbx, hcap, hcell⟩
    · subst e; exact absurd hlt (Nat.not_lt_zero _)
    · injection e with e1 e2 e3
      subst e1
      have hc := rangeAt_block (hcell k hlt) (HB.out.block b hbx)
      obtain ⟨a, ha⟩ : ∃ a, a = xs[k] := ⟨_, rfl⟩
      have HA := Lib.hid ha
      rw [← ha] at hc
      obtain ⟨q0, q1', q2', q3', q4, q5, q6⟩ := cell7_of hc
      have j1 : (k : Int) < xs.length := by omega
      have c0 := keep_cell HB.out b0
      have c1 := keep_cell HB.out b1
      have c2 := keep_cell HB.out b2
      have c3 := keep_cell HB.out b3
      have c4 := keep_cell HB.out b4
      have c5 := keep_cell HB.out b5
      have c6 := keep_cell HB.out b6
      have eb := eqN_iff x a
      clear hc hcell ha e2 e3
      go_upto_region 4 with fail
      go_region_held3 (fun w' => w'.cell? ⟨g, 0, none⟩ = some (.int .i64 x.ref.slot) ∧ w'.cell? ⟨g, 1, none⟩ = some (.int .i64 x.ref.gen) ∧ w'.cell? ⟨g, 2, none⟩ = some (.int .i64 x.ref.tag) ∧ w'.cell? ⟨g, 3, none⟩ = some (.int .i64 x.ref.num) ∧ w'.cell? ⟨g, 4, none⟩ = some (.bool x.ref.mark) ∧ w'.cell? ⟨g, 5, none⟩ = some (.int .i64 x.birth) ∧ w'.cell? ⟨g, 6, none⟩ = some (.int .i64 x.death) ∧ w'.cell? ⟨b, off + k * 7, none⟩ = some (.int .i64 a.ref.slot) ∧ w'.cell? ⟨b, off + k * 7 + 1, none⟩ = some (.int .i64 a.ref.gen) ∧ w'.cell? ⟨b, off + k * 7 + 2, none⟩ = some (.int .i64 a.ref.tag) ∧ w'.cell? ⟨b, off + k * 7 + 3, none⟩ = some (.int .i64 a.ref.num) ∧ w'.cell? ⟨b, off + k * 7 + 4, none⟩ = some (.bool a.ref.mark) ∧ w'.cell? ⟨b, off + k * 7 + 5, none⟩ = some (.int .i64 a.birth) ∧ w'.cell? ⟨b, off + k * 7 + 6, none⟩ = some (.int .i64 a.death))
        (first | go_keep)
        (first | fail)
      by_cases hx : x = a
      · have hkk : k = k0 := by
          rcases Nat.lt_or_ge k k0 with h | h
          · exact absurd (HA.out.symm.trans hx.symm) (HN.out k h)
          · omega
        rw [decide_eq_true hx] at eb
        go_wp2
        go_ret
        exact ⟨by rw [hkk]; rfl, below_trans hB.out (HB.out.drew)⟩
      · have hkk : k < k0 := by
          rcases Nat.lt_or_ge k k0 with h | h
          · exact h
          · exfalso
            have e : k = k0 := by omega
            subst e
            exact hx (HE.out.symm.trans HA.out.symm)
        rw [decide_eq_false hx] at eb
        go_wp2
        go_roundw
        case rel => exact ⟨k + 1, hkk, by go_num, HB.out.drew⟩
        case measure => simp [intOf]; omega
end Go.Proofs.YtihjklimcchkhaaGreatDoor.Sv
