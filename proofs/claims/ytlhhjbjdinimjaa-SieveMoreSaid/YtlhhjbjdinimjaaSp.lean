/- sieve.part: notes parted by a function; Slots, Eras, Spans, Epochs. A template (fill.py). -/
import Derived.Test.YtlhhjbjdinimjaaSk
namespace Go.Proofs.Ytlhhjbjdinimjaa
open Go.RowKit Go.Extern.Stop Go.Stop Go.Extern Go.Sort

theorem own_block {w w' : World} {b m : Nat} {T : TypeId} {size : Nat} {u : Value} {xs : List Value} (h : w.ownsRow b T size u m xs) (hb : ∀ g, u.ownBlock = some g → w'.heap[g]? = w.heap[g]?) : w'.ownsRow b T size u m xs := by
  refine ⟨h.1, ?_⟩
  rcases h.2 with h2 | ⟨g, cap, cur, rfl, h4, h5, h6⟩
  · exact .inl h2
  · exact .inr ⟨g, cap, cur, rfl, h4, (hb g rfl).trans h5, h6⟩
theorem own_slice {w : World} {b m : Nat} {T : TypeId} {size : Nat} {u : Value} {xs : List Value} (h : w.ownsRow b T size u m xs) : ∃ ao c, u = .slice ao m c := by
  rcases h.2 with ⟨rfl, e⟩ | ⟨g, cap, cur, rfl, _⟩
  · exact ⟨none, 0, by rw [e]⟩
  · exact ⟨_, _, rfl⟩
/-- A row of the call's own reads as its list. -/
theorem own_row {α : Type} {c : α → List Value} {k : Nat} (hk : ∀ a, (c a).length = k) {w : World} {b : Nat} {T : TypeId} {u : Value} {xs : List α} (h : w.ownsRow b T k u xs.length (flat c xs)) : RowC c k w u xs := by
  rcases h.2 with ⟨rfl, e⟩ | ⟨g, cap, cur, rfl, h4, h5, h6, h7, h8, h9⟩
  · exact .inl ⟨⟨none, 0, rfl⟩, List.eq_nil_of_length_eq_zero e⟩
  · refine .inr ⟨g, 0, cap, rfl, ?_, h6, fun i hi j v hv => ?_⟩
    · rcases Nat.lt_or_ge g w.heap.size with hlt | hge
      · exact hlt
      · rw [Array.getElem?_eq_none hge] at h5; cases h5
    · have hj : j < k := by have := (List.getElem?_eq_some_iff.1 hv).1; rwa [hk] at this
      have hlt : i * k + j < xs.length * k := by
        have : (i + 1) * k ≤ xs.length * k := Nat.mul_le_mul_right _ hi
        rw [Nat.add_mul] at this; omega
      rw [Nat.zero_add, h.cellAt (i * k + j) hlt, flat_at hk xs i j hi hj]
      exact hv
theorem infoNote : (Try.prog.info? 39).map (fun i => (i.zero, i.size, i.bytes)) = some (some (.agg #[.int .i64 0, .int .i64 0, .int .i64 0, .int .i64 0, .bool false, .int .i64 0, .int .i64 0]), 7, 56) := by kernel_rfl
theorem news7 (w : World) (n : Nt) (t : TypeId) : ∀ j u, (nc n)[j]? = some u → (w.alloc (.cells #[.int .i64 n.ref.slot, .int .i64 n.ref.gen, .int .i64 n.ref.tag, .int .i64 n.ref.num, .bool n.ref.mark, .int .i64 n.birth, .int .i64 n.death] t)).cell? ((⟨w.heap.size, 0, none⟩ : Addr).add j) = some u := fun j u hu => by
  have h := (BlkW.new w t #[.int .i64 n.ref.slot, .int .i64 n.ref.gen, .int .i64 n.ref.tag, .int .i64 n.ref.num, .bool n.ref.mark, .int .i64 n.birth, .int .i64 n.death]).cell j
  have e : (⟨w.heap.size, 0, none⟩ : Addr).add j = ⟨w.heap.size, j, none⟩ := by
    rw [show (⟨w.heap.size, 0, none⟩ : Addr) = ⟨w.heap.size, 0, none⟩ from rfl, Addr.add_mid, Nat.zero_add]
  rw [e, h, List.getElem?_toArray]
  exact hu
def OwnN (w : World) (base : Nat) (v : Value) (xs : List Nt) : Prop := w.ownsRow base 39 7 v xs.length (flat nc xs)
def Apart (v u : Value) : Prop := v.ownBlock = none ∨ v.ownBlock ≠ u.ownBlock
theorem Apart.symm {v u : Value} (h : Apart v u) : Apart u v := by
  rcases h with h | h
  · cases hu : u.ownBlock with
    | none => exact .inl hu
    | some x => exact .inr (by rw [h, hu]; simp)
  · exact .inr (fun e => h e.symm)
/-- Behind an append to one of two rows. -/
theorem apart_app {w : World} {base : Nat} {u v v' : Value} {xs : List Nt} (h : Apart u v) {n : Nat} (hu : OwnN w base u xs) (hn : w.heap.size ≤ n) (ha : v'.ownBlock = v.ownBlock ∨ v'.ownBlock = some n) : Apart u v' := by
  rcases ha with e | e
  · unfold Apart; rw [e]; exact h
  · cases hx : u.ownBlock with
    | none => exact .inl hx
    | some x => refine .inr ?_; rw [hx, e]; intro k; injection k with k; have := (hu.lt x hx).2; omega
/-- What a part comes to. -/
def Parted (w : World) (xs : List Nt) (p : Nt → Bool) (e : Ending) (w' : World) : Prop :=
  ∃ a b, e = .returned (.tuple #[a, b]) ∧ Hid (RowC nc 7 w' a (xs.filter fun n => !p n)) ∧ Hid (RowC nc 7 w' b (xs.filter p)) ∧ Hid (Below w.heap.size w w')
def PRel (w : World) (xs : List Nt) (p : Nt → Bool) (va vb vi : Value) (wr : World) : Prop :=
  ∃ k : Nat, k ≤ xs.length ∧ vi = .int .i64 (k : Int) ∧ OwnN wr w.heap.size va ((xs.take k).filter fun n => !p n) ∧ OwnN wr w.heap.size vb ((xs.take k).filter p) ∧ Apart va vb ∧ Below w.heap.size w wr
theorem filt_yes (p : Nt → Bool) (xs : List Nt) (k : Nat) (h : k < xs.length) (hp : p xs[k] = true) : (xs.take (k + 1)).filter p = (xs.take k).filter p ++ [xs[k]] := by
  rw [List.take_succ_eq_append_getElem h, List.filter_append]; simp [hp]
theorem filt_no (p : Nt → Bool) (xs : List Nt) (k : Nat) (h : k < xs.length) (hp : p xs[k] = false) : (xs.take (k + 1)).filter p = (xs.take k).filter p := by
  rw [List.take_succ_eq_append_getElem h, List.filter_append]; simp [hp]
theorem filt_len (p : Nt → Bool) (xs : List Nt) (k : Nat) : ((xs.take k).filter p).length ≤ k := Nat.le_trans (List.length_filter_le _ _) (List.length_take_le _ _)
set_option maxRecDepth 100000 in
set_option maxHeartbeats 2000000 in
theorem part_any (F : FuncId) (cap : Array Value) (p : Nt → Bool) (W : World) (v : Value) (xs : List Nt) (hv : RowC nc 7 W v xs) (hl : xs.length ≤ 200) (hT : Tells F cap nv p W) :
    Calls Try.prog 21 #[v, .func (.func F) #[] cap] W (Parted W xs p) := by
  obtain ⟨i2, hi2, hz2, hs2, hy2⟩ := info_parts infoNote
  have HV := Lib.hid hv
  have HT := Lib.hid hT
  have hk := hT.1
  obtain ⟨ao, cp, rfl⟩ := hv.slice
  clear hv hT
  go_enter Try.func21, Try.ntmps21
  go_wp2
  go_loopw [4, 5, 10] (fun va vb vi wr => PRel W xs p va vb vi wr) (fun _ _ vi _ => xs.length - (intOf vi).toNat)
  case atStart => exact ⟨0, Nat.zero_le _, rfl, World.ownsRow_nil W _ _ _, World.ownsRow_nil W _ _ _, .inl rfl, Below.refl _ _⟩
  case round =>
    obtain ⟨k, hkl, rfl, hoa, hob, hap, hbel⟩ := hrel
    obtain ⟨wo, rfl⟩ : ∃ wo : World, wo = wr := ⟨_, rfl⟩
    have HB := Lib.hid hbel
    have OA := Lib.hid hoa
    have OB := Lib.hid hob
    have AP := Lib.hid hap
    clear hbel hoa hob hap
    have hfa := filt_len (fun n => !p n) xs k
    have hfb := filt_len p xs k
    by_cases hlt : k < xs.length
    · rcases HV.out with ⟨_, e⟩ | ⟨b, off, cap', e, hbx, hcap, hcell⟩
      · subst e; exact absurd hlt (Nat.not_lt_zero _)
      · injection e with e1 e2 e3
        subst e1
        have hc := rangeAt_block (hcell k hlt) (HB.out.block b hbx)
        have HY := Lib.hid (fun hp => filt_yes p xs k hlt hp)
        have HN := Lib.hid (fun hp => filt_no p xs k hlt hp)
        have HY' := Lib.hid (fun hp => filt_yes (fun n => !p n) xs k hlt hp)
        have HN' := Lib.hid (fun hp => filt_no (fun n => !p n) xs k hlt hp)
        obtain ⟨a, ha⟩ : ∃ a, a = xs[k] := ⟨_, rfl⟩
        rw [← ha] at hc HY HN HY' HN'
        obtain ⟨q0, q1, q2, q3, q4, q5, q6⟩ := nc_cells hc
        clear hc hcell ha e2 e3
        have j1 : (k : Int) < xs.length := by omega
        have BA := Lib.hid (below_alloc (Below.refl wo.heap.size wo) (.cells (nc a).toArray 39))
        have XA := Lib.hid (BlkW.new wo 39 (nc a).toArray)
        go_wp2_with fail
        refine (HT.out.2 a _ (HB.out.trans (BA.out.mono HB.out.size))).mono ?_
        rintro e w1 ⟨rfl, hb⟩
        have hb1 := below_trans BA.out hb
        have B1 := Lib.hid (HB.out.trans (hb1.mono HB.out.size))
        have OA := Lib.hid (own_block OA.out (fun g e => hb1.block g (OA.out.lt g e).2))
        have OB := Lib.hid (own_block OB.out (fun g e => hb1.block g (OB.out.lt g e).2))
        have x := XA.out.below hb
        have lx := x.lt
        clear q0 q1 q2 q3 q4 q5 q6
        obtain ⟨q0, q1, q2, q3, q4, q5, q6⟩ := cell7 x
        have hsz := B1.out.size
        clear hb hb1 x XA BA HB
        generalize wo.heap.size = x at q0 q1 q2 q3 q4 q5 q6 lx ⊢
        cases hp : p a with
        | true =>
          have H1 := Lib.hid (HY.out hp)
          have H2 := Lib.hid (HN'.out (by simp [hp]))
          clear hp HY HN HY' HN'
          go_wp2_with (at_builtin; refine wpList_append_own_at _ rfl _ _ 22 rfl W.heap.size 39 i2 _ 7 56 Try.underlying22 hi2 hz2 hs2 hy2 rfl (by decide) u5 _ _ (by rfl) (OB.out.alloc _) ⟨w1.heap.size, 0, none⟩ 1 1 (nc a) (by rfl) rfl ?c1 ?c2 ?c3 ?c4 ?c5 ?_)
          case c1 => exact news7 w1 a _
          case c2 => exact nc_one a
          case c3 => simp only [maxLen]; omega
          case c4 => omega
          case c5 => rw [World.size_alloc]; omega
          intro v' w4 hown' hgrow _ hat
          have hb4 := (B1.out.trans ((below_alloc (Below.refl w1.heap.size w1) (.cells (nc a).toArray 39)).mono B1.out.size)).grown hgrow (by rw [World.size_alloc]; omega) (fun q e => (OB.out.lt q e).1)
          have B4 := Lib.hid hb4
          have AP4 := Lib.hid (apart_app (base := W.heap.size) AP.out OA.out (Nat.le_succ _) hat)
          have OA4 := Lib.hid (World.ownsRow.kept (OA.out.alloc (.cells (nc a).toArray 39)) hgrow AP.out)
          have OB4 : Hid (OwnN w4 W.heap.size v' (((xs.take k).filter p) ++ [a])) := by
            have h := hown'
            unfold OwnN
            rw [flat_snoc, List.length_append]; exact h
          clear hown' hgrow hat hb4 q0 q1 q2 q3 q4 q5 q6 OA OB AP B1 lx hsz
          go_wp2
          go_roundw
          case rel => exact ⟨k + 1, by omega, by go_num, by rw [H2.out]; exact OA4.out, by rw [H1.out]; exact OB4.out, AP4.out, B4.out⟩
          case measure => simp [intOf]; omega
        | false =>
          have H1 := Lib.hid (HY'.out (by simp [hp]))
          have H2 := Lib.hid (HN.out hp)
          clear hp HY HN HY' HN'
          go_wp2_with (at_builtin; refine wpList_append_own_at _ rfl _ _ 22 rfl W.heap.size 39 i2 _ 7 56 Try.underlying22 hi2 hz2 hs2 hy2 rfl (by decide) u4 _ _ (by rfl) (OA.out.alloc _) ⟨w1.heap.size, 0, none⟩ 1 1 (nc a) (by rfl) rfl ?c1 ?c2 ?c3 ?c4 ?c5 ?_)
          case c1 => exact news7 w1 a _
          case c2 => exact nc_one a
          case c3 => simp only [maxLen]; omega
          case c4 => omega
          case c5 => rw [World.size_alloc]; omega
          intro v' w4 hown' hgrow _ hat
          have hb4 := (B1.out.trans ((below_alloc (Below.refl w1.heap.size w1) (.cells (nc a).toArray 39)).mono B1.out.size)).grown hgrow (by rw [World.size_alloc]; omega) (fun q e => (OA.out.lt q e).1)
          have B4 := Lib.hid hb4
          have AP4 := Lib.hid (apart_app (base := W.heap.size) AP.out.symm OB.out (Nat.le_succ _) hat).symm
          have OB4 := Lib.hid (World.ownsRow.kept (OB.out.alloc (.cells (nc a).toArray 39)) hgrow AP.out.symm)
          have OA4 : Hid (OwnN w4 W.heap.size v' (((xs.take k).filter fun n => !p n) ++ [a])) := by
            have h := hown'
            unfold OwnN
            rw [flat_snoc, List.length_append]; exact h
          clear hown' hgrow hat hb4 q0 q1 q2 q3 q4 q5 q6 OA OB AP B1 lx hsz
          go_wp2
          go_roundw
          case rel => exact ⟨k + 1, by omega, by go_num, by rw [H1.out]; exact OA4.out, by rw [H2.out]; exact OB4.out, AP4.out, B4.out⟩
          case measure => simp [intOf]; omega
    · obtain rfl : k = xs.length := by omega
      have HA := Lib.hid (own_row nc_len OA.out)
      have HB' := Lib.hid (own_row nc_len OB.out)
      go_wp2
      go_ret2
      exact ⟨_, _, rfl, by have h := HA.out; rwa [List.take_length] at h, by have h := HB'.out; rwa [List.take_length] at h, HB.out⟩
end Go.Proofs.Ytlhhjbjdinimjaa
