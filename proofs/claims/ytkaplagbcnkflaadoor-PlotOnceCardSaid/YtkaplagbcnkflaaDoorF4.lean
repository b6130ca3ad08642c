/- plot: give, take. A template (fill.py). -/
import Derived.Test.YtkaplagbcnkflaaDoorF3
import Derived.Deep.RegionWith
import Derived.Outline
import Derived.Deep.Cut
namespace Go.Proofs.YtkaplagbcnkflaaDoor
open Go.RowKit Go.Extern.Stop Go.Stop Go.Extern Go.Sort
section
variable {w : World} {E : Flt → Addr} {B p bs bb : Nat} {v fv : Value} {t : St}
def GivePost (w : World) (E : Flt → Addr) (B p bs bb : Nat) (v : Value) (r : St × Wd × Bool) (e : Ending) (w' : World) : Prop :=
  ∃ v' fv', e = .returned (rv r.2.1 r.2.2) ∧ Rep w' E B p bs bb v' fv' r.1 ∧ Off (Mine p bs bb v) w w' ∧ (v'.ownBlock = v.ownBlock ∨ ∀ k, v'.ownBlock = some k → w.heap.size ≤ k)
theorem own_nil {w : World} {base : Nat} {e : TypeId} {v : Value} {xs : List Value} (h : w.ownsRow base e 1 v 0 xs) : ∃ ao c, v = .slice ao 0 c := by
  rcases h.2 with ⟨rfl, _⟩ | ⟨g, cap, cur, rfl, _⟩
  · exact ⟨_, _, rfl⟩
  · exact ⟨_, _, rfl⟩
theorem give_none (h : Rep w E B p bs bb v fv t) (hf : t.free = []) (birth : Int) :
    Calls Tryd.prog 22 #[.pointer (some ⟨p, 0, none⟩), .int .i64 birth] w (GivePost w E B p bs bb v (t, zw, false)) := by
  have HR := Lib.hid h
  have c2 := h.pcells.2.2.1
  have hz := h.hp.lt
  have hv := h.free
  rw [hf] at hv
  obtain ⟨ao, c, rfl⟩ := own_nil hv
  clear h hv hf
  unfold GivePost
  dsimp only
  rw [zw_rv]
  go_enter Tryd.func22, Tryd.ntmps22
  go_wp2
  refine bodyPost_ret (v := .agg #[.int .i64 0, .int .i64 0, .int .i64 0, .int .i64 0, .bool false, .bool false]) (by simp [results, Tryd.results22, go_sem]) rfl ⟨_, _, rfl, HR.out.alloc _, (Off.refl _ _).alloc _, .inl rfl⟩
theorem own_last {w : World} {base : Nat} {v : Value} {i : Nat} {r : List Nat} (h : w.ownsRow base 3 1 v (i :: r).length (frow (i :: r))) :
    ∃ g cap, v = .slice (some ⟨g, 0, none⟩) (r.length + 1) cap ∧ r.length + 1 ≤ cap ∧ cap ≤ maxLen ∧ w.cell? ⟨g, r.length, none⟩ = some (.int .i64 ((i : Int) + 1)) ∧ base ≤ g ∧ g < w.heap.size ∧
      w.ownsRow base 3 1 (.slice (some ⟨g, 0, none⟩) r.length cap) r.length (frow r) := by
  have h0 := h
  obtain ⟨h1, h2⟩ := h
  rcases h2 with ⟨_, h3⟩ | ⟨g, cap, cur, rfl, h4, h5, h6, h7, h8, h9⟩
  · simp at h3
  · have hfr : frow (i :: r) = frow r ++ [.int .i64 ((i : Int) + 1)] := by simp [frow]
    have hfl : (frow r).length = r.length := by simp [frow]
    refine ⟨g, cap, rfl, h6, h7, ?_, h4, (h0.lt g rfl).2, ?_⟩
    · rw [h0.cellAt r.length (by simp), hfr, List.getElem?_append_right (by omega), hfl]
      simp
    · refine ⟨by simp [hfl], .inr ⟨g, cap, cur, rfl, h4, h5, by simp at h6; omega, h7, h8, ?_⟩⟩
      rw [hfr] at h9
      have : (cur.toList.take ((i :: r).length * 1)).take r.length = frow r := by rw [h9, List.take_append_of_le_length (by omega), List.take_of_length_le (by omega)]
      rw [List.take_take] at this
      simpa using this
theorem nodup_le (n : Nat) : ∀ l : List Nat, l.Nodup → (∀ x ∈ l, x < n) → l.length ≤ n := by
  induction n with
  | zero =>
    intro l _ h
    cases l with
    | nil => exact Nat.le_refl _
    | cons a l => exact absurd (h a (List.mem_cons_self ..)) (Nat.not_lt_zero _)
  | succ n ih =>
    intro l hn h
    have h1 := ih (l.erase n) (hn.erase n) (fun x hx => by
      have := (hn.mem_erase_iff).1 hx
      have := h x this.2
      omega)
    have := @List.length_erase _ _ _ n l
    split at this <;> omega
theorem fresh_cast {n : Nat} {S : Nat → Sl} (h : Slots w bs n S) {i : Nat} (hi : i < n) (q : Nat) :
    Slots (w.setCells bs (i * 52) (freshCells ((q : Int) + 1))) bs n (fun k => if k = i then ⟨q + 1, true, fun _ => zw⟩ else S k) := by
  have := h.fresh hi (q + 1)
  have e : ((q + 1 : Nat) : Int) = (q : Int) + 1 := by omega
  rw [e] at this
  exact this
theorem fresh_one (g : Int) : (freshCells g).toArray.all (·.oneCell') = true :=
  all_oneCell_toArray fun v hv => by
    simp [freshCells, wc, zw] at hv
    repeat (first | (subst hv; rfl) | (rcases hv with rfl | hv; · rfl))
theorem Rep.slot_congr (h : Rep w E B p bs bb v fv t) (S : Nat → Sl) (e : ∀ k, t.slot k = S k) : Rep w E B p bs bb v fv { t with slot := S } := by
  obtain rfl : t.slot = S := funext e
  exact h
set_option maxRecDepth 100000 in
set_option maxHeartbeats 2000000 in
theorem give_some (h : Rep w E B p bs bb v fv t) (o : t.Ok) (hm : t.made < 1000000) (i : Nat) (r : List Nat) (hf : t.free = i :: r) (birth : Int) :
    Calls Tryd.prog 22 #[.pointer (some ⟨p, 0, none⟩), .int .i64 birth] w (GivePost w E B p bs bb v (t.give birth)) := by
  have HR := Lib.hid h
  have hi : i < t.n := o.lt i (by rw [hf]; exact List.mem_cons_self ..)
  have hn := o.size
  have c2 := h.pcells.2.2.1
  have c4 := h.pcells.2.2.2.2.1
  have f2 := h.hp.frozen 2
  have f4 := h.hp.frozen 4
  have hz := h.hp.lt
  have hz1 : p < w.heap.size + 1 := by omega
  have hg := o.gen i
  have hv := h.free
  rw [hf] at hv
  obtain ⟨g, cap, rfl, k1, k2, c5, k3, k4, hown⟩ := own_last hv
  have HW := Lib.hid hown
  have HF := Lib.hid hf
  obtain ⟨L, hL⟩ : ∃ L, L = r.length := ⟨_, rfl⟩
  have HL := Lib.hid hL
  rw [← hL] at k1 c2 c5
  have hgp : g ≠ p := fun e => by have := h.ne.2.2.2.1; simp [Value.ownBlock, e] at this
  have j0 : decide ((L : Int) < 0) = false := by simp
  have j1 : (L : Int) + 1 ≤ cap := by omega
  have j2 : (L : Int) + 1 ≤ 1024 := by
    have := nodup_le t.n t.free o.nodup o.lt
    rw [hf, List.length_cons, ← hL] at this
    omega
  have j3 : (t.made : Int) < 1000000 := by omega
  clear h hv hf o hown hL k2
  go_enter Tryd.func22, Tryd.ntmps22
  go_wp2_with fail
  have R2 := HR.out.own 2 (.slice (some ⟨g, 0, none⟩) L cap) (v' := .slice (some ⟨g, 0, none⟩) L cap) (fv' := fv) (t' := { t with free := r }) rfl ⟨rfl, rfl, rfl, rfl⟩ (by rw [HL.out]; exact HW.out) HR.out.fault
  have R4 := R2.own 4 (.int .i64 ((t.made : Int) + 1)) (v' := .slice (some ⟨g, 0, none⟩) L cap) (fv' := fv) (t' := { t with free := r, made := t.made + 1 }) rfl ⟨rfl, rfl, rfl, rfl⟩ R2.free R2.fault
  have hb : BlkW (((w.setCell ⟨p, 2, none⟩ (.slice (some ⟨g, 0, none⟩) L cap)).setCell ⟨p, 4, none⟩ (.int .i64 ((t.made : Int) + 1))).alloc (.cells #[.int .i64 0, .int .i64 0, .int .i64 0, .int .i64 0, .bool false, .bool false] 39)) w.heap.size 39 #[.int .i64 0, .int .i64 0, .int .i64 0, .int .i64 0, .bool false, .bool false] := by
    have := BlkW.new ((w.setCell ⟨p, 2, none⟩ (.slice (some ⟨g, 0, none⟩) L cap)).setCell ⟨p, 4, none⟩ (.int .i64 ((t.made : Int) + 1))) 39 #[.int .i64 0, .int .i64 0, .int .i64 0, .int .i64 0, .bool false, .bool false]
    rwa [size_setCell, size_setCell] at this
  have R5 := R4.alloc (.cells #[.int .i64 0, .int .i64 0, .int .i64 0, .int .i64 0, .bool false, .bool false] 39)
  have O5 := ((((Off.refl (Mine p bs bb (.slice (some ⟨g, 0, none⟩) (r.length + 1) cap)) w).set (.inl (.inl rfl)) 2 (.slice (some ⟨g, 0, none⟩) L cap)).set (.inl (.inl rfl)) 4 (.int .i64 ((t.made : Int) + 1))).alloc (.cells #[.int .i64 0, .int .i64 0, .int .i64 0, .int .i64 0, .bool false, .bool false] 39))
  clear R2 R4 c2 c4 c5 f2 f4
  refine (slot_in R5 hn i hi).mono ?_
  rintro e w1 ⟨rfl, rfl⟩
  have hz5 : w.heap.size < (((w.setCell ⟨p, 2, none⟩ (.slice (some ⟨g, 0, none⟩) L cap)).setCell ⟨p, 4, none⟩ (.int .i64 ((t.made : Int) + 1))).alloc (.cells #[.int .i64 0, .int .i64 0, .int .i64 0, .int .i64 0, .bool false, .bool false] 39)).heap.size := hb.lt
  generalize (((w.setCell ⟨p, 2, none⟩ (.slice (some ⟨g, 0, none⟩) L cap)).setCell ⟨p, 4, none⟩ (.int .i64 ((t.made : Int) + 1))).alloc (.cells #[.int .i64 0, .int .i64 0, .int .i64 0, .int .i64 0, .bool false, .bool false] 39)) = W at hb R5 O5 hz5 ⊢
  have h0 : W.cell? ⟨bs, i * 52, none⟩ = some (.int .i64 ((t.slot i).gen : Int)) := R5.slots.head i hi 0 _ rfl
  have hth := Lib.hid (R5.slots.there (o := i * 52) (k := 52) (by show i * 52 + 52 ≤ t.n * 52; omega))
  have HB := Lib.hid hb
  have H5 := Lib.hid R5
  have O5 := Lib.hid O5
  obtain ⟨q, hq⟩ : ∃ q : Nat, q = (t.slot i).gen := ⟨_, rfl⟩
  have HQ := Lib.hid hq
  rw [← hq] at h0 hg
  have hg2 : (q : Int) < 1000000 := by omega
  clear hb R5 hq
  go_upto_region 9 with (refine wpList_store_mid rfl 68 (.tmp 50) (.tmp 49) rfl bs (i * 52) (freshCells ((q : Int) + 1)).toArray (by rfl) (by rfl) hth.out (by kernel_rfl) (fresh_one _) ?_)
  have hf5 := fresh_cast H5.out.slots hi q
  have R6 := H5.out.inSlots (i * 52) (freshCells ((q : Int) + 1)) hf5
  have O6 := Lib.hid (O5.out.sets (b := bs) (.inl (.inr (.inl rfl))) (freshCells ((q : Int) + 1)) (i * 52))
  have hbs : w.heap.size ≠ bs := fun e => by
    obtain ⟨cs, hcs, _⟩ := H5.out.slots.blk
    exact BlkW.ne_ HB.out hcs (by decide) e
  have B6 := Lib.hid (blk_far hbs (freshCells ((q : Int) + 1)) (i * 52) HB.out)
  clear hf5 h0
  generalize W.setCells bs (i * 52) (freshCells ((q : Int) + 1)) = W1 at R6 O6 B6 ⊢
  have d0 : W1.cell? ⟨bs, i * 52, none⟩ = some (.int .i64 (((q + 1 : Nat) : Int))) := by
    have := R6.slots.head i hi 0 _ rfl
    simpa using this
  have d1 : WdAt W1 bs (i * 52 + 2 + 9 * 5) zw := by
    have := R6.slots.cell i 9 hi (by omega)
    simpa using this
  have d2 : ∀ x, W1.frozen? ⟨bs, x, none⟩ = false := by
    obtain ⟨cs, hcs, _⟩ := R6.slots.blk
    exact fun x => hcs.frozen x
  have lbs := R6.lt.2.1
  have hN := (Num_any birth W1.drew).mono (R' := fun e w2 => e = .returned (.agg #[.int .i64 0, .int .i64 0, .int .i64 0, .int .i64 birth, .bool false]) ∧ WdAt w2 bs (i * 52 + 2 + 9 * 5) zw ∧ (∀ x, w2.frozen? ⟨bs, x, none⟩ = false) ∧ w2.cell? ⟨bs, i * 52, none⟩ = some (.int .i64 ((q + 1 : Nat) : Int)) ∧
      BlkW w2 w.heap.size 39 #[.int .i64 0, .int .i64 0, .int .i64 0, .int .i64 0, .bool false, .bool false] ∧ Hid (Below W1.heap.size W1 w2)) (fun e w2 h => by
    obtain ⟨he, hb⟩ := h
    have hb : Below W1.heap.size W1 w2 := ⟨hb.os, hb.tape, hb.output, hb.size, hb.block⟩
    exact ⟨he, range_block d1 (hb.block _ lbs), fun x => by rw [hb.frozen (p := ⟨bs, x, none⟩) lbs]; exact d2 x, by rw [hb.cell (p := ⟨bs, i * 52, none⟩) lbs]; exact d0, B6.out.below hb, hb⟩)
  have H6 := Lib.hid R6
  clear R6 d0 d1 d2
  go_simp
  go_region_with (go_at_call 34; refine hN.mono ?_; rintro e w2 ⟨rfl, d1, d2, d0, d3, hb⟩; obtain ⟨c0, c1, c2, c3, c4⟩ := d1.cells)
  go_upto_region 10 with (fail)
  clear c0 c1 c2 c3 c4 d0 d1 d2
  have R7 := H6.out.keep hb.out
  have R8 := R7.inSlots _ _ (R7.slots.word hi (f := 9) (by omega) (nw birth))
  have O8 := Lib.hid ((O6.out.then hb.out).sets (b := bs) (.inl (.inr (.inl rfl))) (wc (nw birth)) (i * 52 + 2 + 9 * 5))
  have B8 := blk_far hbs (wc (nw birth)) (i * 52 + 2 + 9 * 5) d3
  clear d3 R7
  have e8 : w2.setCells bs (i * 52 + 2 + 9 * 5) (wc (nw birth)) = ((((w2.setCell ⟨bs, i * 52 + 2 + 45, none⟩ (.int .i64 0)).setCell ⟨bs, i * 52 + 2 + 45 + 1, none⟩ (.int .i64 0)).setCell ⟨bs, i * 52 + 2 + 45 + 2, none⟩ (.int .i64 0)).setCell ⟨bs, i * 52 + 2 + 45 + 3, none⟩ (.int .i64 birth)).setCell ⟨bs, i * 52 + 2 + 45 + 4, none⟩ (.bool false) := rfl
  rw [e8] at R8 O8 B8
  clear e8
  generalize ((((w2.setCell ⟨bs, i * 52 + 2 + 45, none⟩ (.int .i64 0)).setCell ⟨bs, i * 52 + 2 + 45 + 1, none⟩ (.int .i64 0)).setCell ⟨bs, i * 52 + 2 + 45 + 2, none⟩ (.int .i64 0)).setCell ⟨bs, i * 52 + 2 + 45 + 3, none⟩ (.int .i64 birth)).setCell ⟨bs, i * 52 + 2 + 45 + 4, none⟩ (.bool false) = W3 at R8 O8 B8 ⊢
  have d0 : W3.cell? ⟨bs, i * 52, none⟩ = some (.int .i64 ((q : Int) + 1)) := by
    have := R8.slots.head i hi 0 _ rfl
    simpa using this
  have f0 := fun x => B8.frozen x
  have c0 := B8.cell 0
  have c1 := B8.cell 1
  have c2 := B8.cell 2
  have c3 := B8.cell 3
  have c4 := B8.cell 4
  have c5 := B8.cell 5
  simp only [List.getElem?_toArray, List.getElem?_cons_succ, List.getElem?_cons_zero] at c0 c1 c2 c3 c4 c5
  have RB8 := Lib.hid (show RB W3 E B p bs bb _ fv _ w.heap.size from ⟨R8, _, B8⟩)
  clear R8 B8
  go_wp2
  refine bodyPost_ret (v := .agg #[.int .i64 ((i : Int) + 1), .int .i64 ((q : Int) + 1), .int .i64 0, .int .i64 0, .bool false, .bool true]) (by simp [results, Tryd.results22, go_sem, c0, c1, c2, c3, c4, c5]) rfl ?_
  have hr : t.give birth = ({ t with free := r, made := t.made + 1, slot := fun k => if k = i then ⟨(t.slot i).gen + 1, true, fun h => if h = 9 then nw birth else zw⟩ else t.slot k }, ⟨(i : Int) + 1, ((t.slot i).gen : Int) + 1, 0, 0, false⟩, true) := by
    unfold St.give; rw [HF.out]
  rw [hr, ← HQ.out]
  refine ⟨_, fv, rfl, Rep.slot_congr ((((((RB8.out.set 0 _).set 1 _).set 2 _).set 3 _).set 4 _).set 5 _).1 _ (fun k => ?_), (((((O8.out.set (.inr (Nat.le_refl _)) 0 _).set (.inr (Nat.le_refl _)) 1 _).set (.inr (Nat.le_refl _)) 2 _).set (.inr (Nat.le_refl _)) 3 _).set (.inr (Nat.le_refl _)) 4 _).set (.inr (Nat.le_refl _)) 5 _, .inl rfl⟩
  by_cases e : k = i
  · subst e; simp
  · simp [e]
end
end Go.Proofs.YtkaplagbcnkflaaDoor
