/- rite: scan by announcements of slots. A template (made by gen_XRl.py). -/
/- rite: scan, an announcement is heard. A template (made by gen_XRm.py). -/
import Derived.Test.YtihjklimcchkhaaGreatDoorRk
namespace Go.Proofs.YtihjklimcchkhaaGreatDoor
open Go.RowKit Go.Extern.Stop Go.Stop Go.Extern Go.Sort
section
variable {w w' : World} {B r : Nat} {sv fv nv : Value} {m : Rt} {K : Nat → Prop}
/-- The first one that may be freed stands among the notes, from where the scan is on. -/
def FreeOk (m : Rt) : Prop := ∀ x l, m.st.free = x :: l → ∃ k0, ∃ hk : k0 < (m.notes.drop m.st.pos).length, (m.notes.drop m.st.pos)[k0] = x ∧ ∀ j, ∀ h : j < k0, (m.notes.drop m.st.pos)[j] ≠ x
theorem release_any (h : RiteP w B r sv fv nv m K) (hl : m.notes.length ≤ 1000) (hF : FreeOk m) :
    Calls Tryz.prog 129 #[.pointer (some ⟨r, 0, none⟩)] w (RPost w B r K m.release) := by
  cases hf : m.st.free with
  | nil => rw [release_nil m hf]; exact release_end h hf
  | cons x l =>
    obtain ⟨k0, hk, hx, hb⟩ := hF x l hf
    exact release_next h x l hf k0 hl hk hx hb
theorem strike_any (h : RiteP w B r sv fv nv m K) (hp : m.st.pos < m.notes.length) (hl : m.notes.length ≤ 1000) (hf : m.freed ≤ 100000) (b : Bool) :
    Calls Tryz.prog 130 #[.pointer (some ⟨r, 0, none⟩), .bool b] w (RPost w B r K (m.strike b)) := by
  cases b with
  | true => exact strike_yes h hp hl hf
  | false => exact strike_no h (by omega)
theorem strike_notes (m : Rt) (b : Bool) : (m.strike b).notes.length ≤ m.notes.length := by
  cases b with
  | true => exact List.length_eraseIdx_le _ _
  | false => exact Nat.le_refl _
set_option maxRecDepth 100000 in
set_option maxHeartbeats 1000000 in
theorem scan_freed (h : RiteP w B r sv fv nv m K) (x : Wd × Bool) (hd : m.st.done = 8) (hp : m.st.pos < m.notes.length) (hl : m.notes.length ≤ 1000) (hf : m.freed ≤ 100000) (hF : FreeOk (m.strike x.2)) :
    Calls Tryz.prog 94 #[.pointer (some ⟨r, 0, none⟩), rpv x] w (RPost w B r K ((m.strike x.2).release)) := by
  have HRL := Lib.hid (fun b (e : K b) => (show b ≠ w.heap.size from Nat.ne_of_lt (h.low b e).2))
  replace HRL : Hid (∀ b, K b → b ≠ w.heap.size) := HRL
  have h1 := h.below (below_alloc (Below.refl _ _) (.cells #[.int .i64 x.1.slot, .int .i64 x.1.gen, .int .i64 x.1.tag, .int .i64 x.1.num, .bool x.1.mark, .bool x.2] 63))
  have HX := Lib.hid (box_rep w x)
  have HB0 := Lib.hid (below_alloc (Below.refl w.heap.size w) (.cells #[.int .i64 x.1.slot, .int .i64 x.1.gen, .int .i64 x.1.tag, .int .i64 x.1.num, .bool x.1.mark, .bool x.2] 63))
  have HR := Lib.hid h1
  clear h h1
  unfold rpv
  go_enter Tryz.func94, Tryz.ntmps94
  go_upto_region 1 with fail
  generalize w.alloc (.cells #[.int .i64 x.1.slot, .int .i64 x.1.gen, .int .i64 x.1.tag, .int .i64 x.1.num, .bool x.1.mark, .bool x.2] 63) = W at HR HX HB0 ⊢
  have hX := HX.out
  have hzx := BlkW.lt hX
  have hrx : w.heap.size ≠ r := fun e => BlkW.ne_ hX HR.out.at_ (by decide) e
  have hkx : ¬ K w.heap.size := fun e => HRL.out _ e rfl
  obtain ⟨b0, b1, b2, b3, b4, b5⟩ := rep6 hX
  have hz := BlkW.lt HR.out.at_
  have cd := HR.out.at_.done
  have ce := HR.out.at_.fix.1
  clear hX HX
  generalize w.heap.size = g at hzx hrx hkx b0 b1 b2 b3 b4 b5 ⊢
  rw [hd] at cd
  have HS := Lib.hid (strike_any HR.out hp hl hf x.2)
  have HL := Lib.hid (Nat.le_trans (strike_notes m x.2) hl)
  have HF := Lib.hid hF
  clear hd hp hl hf hF
  go_wp2_with fail
  refine HS.out.mono ?_
  rintro e w1 ⟨rfl, h1⟩
  obtain ⟨K1, ⟨sv1, fv1, nv1, hp1⟩, ho1, hk1⟩ := h1.out
  have HP1 := Lib.hid hp1
  have HO1 := Lib.hid ho1
  have HK1 := Lib.hid hk1
  clear hp1 ho1 hk1
  go_wp2_with fail
  refine (release_any HP1.out HL.out HF.out).mono ?_
  rintro e w2 ⟨rfl, h2⟩
  go_wp2
  first
    | go_end0
    | refine bodyPost_ret (results_none rfl _ _ _) rfl ?_
  exact ⟨rfl, Lib.hid (RStep.below HB0.out (RStep.trans HO1.out HK1.out h2.out))⟩
set_option maxRecDepth 100000 in
set_option maxHeartbeats 1000000 in
theorem scan_first (h : RiteP w B r sv fv nv m K) (x : Wd × Bool) (hd : m.st.done = 0) (he : m.eng = 2) (hs : m.st.said = []) (ht : 1 ≤ m.thr ∧ m.thr ≤ 6) :
    Calls Tryz.prog 94 #[.pointer (some ⟨r, 0, none⟩), rpv x] w (RPost w B r K ((m.setClock x.1).hear)) := by
  have HRL := Lib.hid (fun b (e : K b) => (show b ≠ w.heap.size from Nat.ne_of_lt (h.low b e).2))
  replace HRL : Hid (∀ b, K b → b ≠ w.heap.size) := HRL
  have h1 := h.below (below_alloc (Below.refl _ _) (.cells #[.int .i64 x.1.slot, .int .i64 x.1.gen, .int .i64 x.1.tag, .int .i64 x.1.num, .bool x.1.mark, .bool x.2] 63))
  have HX := Lib.hid (box_rep w x)
  have HB0 := Lib.hid (below_alloc (Below.refl w.heap.size w) (.cells #[.int .i64 x.1.slot, .int .i64 x.1.gen, .int .i64 x.1.tag, .int .i64 x.1.num, .bool x.1.mark, .bool x.2] 63))
  have HR := Lib.hid h1
  clear h h1
  unfold rpv
  go_enter Tryz.func94, Tryz.ntmps94
  go_upto_region 1 with fail
  generalize w.alloc (.cells #[.int .i64 x.1.slot, .int .i64 x.1.gen, .int .i64 x.1.tag, .int .i64 x.1.num, .bool x.1.mark, .bool x.2] 63) = W at HR HX HB0 ⊢
  have hX := HX.out
  have hzx := BlkW.lt hX
  have hrx : w.heap.size ≠ r := fun e => BlkW.ne_ hX HR.out.at_ (by decide) e
  have hkx : ¬ K w.heap.size := fun e => HRL.out _ e rfl
  obtain ⟨b0, b1, b2, b3, b4, b5⟩ := rep6 hX
  have hz := BlkW.lt HR.out.at_
  have cd := HR.out.at_.done
  have ce := HR.out.at_.fix.1
  clear hX HX
  generalize w.heap.size = g at hzx hrx hkx b0 b1 b2 b3 b4 b5 ⊢
  rw [hd] at cd
  rw [he] at ce
  have hw : (m.setClock x.1).saysWords = true := by unfold Rt.saysWords; rw [show (m.setClock x.1).eng = 2 from he]; rfl
  have HH : Hid ((m.setClock x.1).hear = (m.setClock x.1).load (0, 0, (keepAt (m.st.said.length / 9) (m.st.said.length % 9) : Nat)) 7) := Lib.hid (by unfold Rt.hear; rw [hw]; rfl)
  have HSL := Lib.hid (show m.st.said.length < m.thr * 9 by rw [hs]; simp; omega)
  obtain ⟨ao, cp, esv⟩ := Sv.own_slice HR.out.said
  have HE := Lib.hid esv
  have hht := ht.2
  obtain ⟨s0, s1, s2, s3, s4⟩ := HR.out.at_.clock5
  have fz : ∀ o, W.frozen? ⟨r, o, none⟩ = false := HR.out.at_.frozen
  have HW := Lib.hid hw
  clear hd he hs ht hw esv
  go_wp2_with fail
  show Calls _ _ _ (W.setCells r 45 (wc x.1)) _
  have RS := Lib.hid (HR.out.at_.setClock x.1)
  have OS := Lib.hid (Only.sets (r := r) (w := W) 45 (wc x.1))
  generalize W.setCells r 45 (wc x.1) = W1 at RS OS ⊢
  refine (listen_more RS.out ⟨ao, cp, HE.out⟩ hht HW.out HSL.out).mono ?_
  rintro e w2 ⟨rfl, h1, h2⟩
  go_wp2
  first
    | go_end0
    | refine bodyPost_ret (results_none rfl _ _ _) rfl ?_
  rw [HH.out]
  exact ⟨rfl, Lib.hid (RStep.below HB0.out (HR.out.step_only h1.out (OS.out.trans h2.out) (.inl ⟨rfl, rfl⟩) (.inl ⟨rfl, rfl⟩) rfl))⟩
end
end Go.Proofs.YtihjklimcchkhaaGreatDoor

namespace Go.Proofs.YtihjklimcchkhaaGreatDoor
open Go.RowKit Go.Extern.Stop Go.Stop Go.Extern Go.Sort
section
variable {w w' : World} {B r : Nat} {sv fv nv : Value} {m : Rt} {K : Nat → Prop}
theorem infoWd : (Tryz.prog.info? 34).map (fun i => (i.zero, i.size, i.bytes)) = some (some (.agg #[.int .i64 0, .int .i64 0, .int .i64 0, .int .i64 0, .bool false]), 5, 40) := by kernel_rfl
def setSaid (m : Rt) (d : Wd) : Rt := { m with st := { m.st with said := m.st.said ++ [d] } }
/-- What may be freed is known. -/
theorem RiteP.loosed {w4 : World} (h : RiteP w B r sv fv nv m K) (hb : Below w.heap.size w w4) {a : Value} {fs : List Nt} (ha : w4.ownsRow w.heap.size 74 7 a fs.length (Sv.flat Sv.nc fs)) :
    ∃ K', RiteP (w4.setCell ⟨r, 51, none⟩ a) B r sv a nv (setFree m fs) K' ∧ Off K w (w4.setCell ⟨r, 51, none⟩ a) ∧ ∀ b, K' b → K b ∨ w.heap.size ≤ b := by
  have h4 := h.below hb
  have hz := BlkW.lt h.at_
  have RV : RtAt (w4.setCell ⟨r, 51, none⟩ a) r sv a nv (setFree m fs) := h4.at_.set 51 a (by kernel_rfl)
  have O2 : Only r w4 (w4.setCell ⟨r, 51, none⟩ a) := (Off.refl (fun j => j = r) w4).set (.inl rfl) 51 a
  have hne := h4.ne
  refine ⟨fun b => K b ∨ a.ownBlock = some b, ⟨RV, own_off h4.said O2 (fun c e k => hne.1 (k ▸ e)), own_off h4.notes O2 (fun c e k => hne.2.1 (k ▸ e)), ?_, .inl h.kr, fun c e => .inl (h.ks c e), fun c e => .inl (h.kn c e), .inr fun c e => .inr e, fun c hc => ?_⟩,
    ((Off.of_below (K := K) hb).trans (⟨O2.os, O2.tape, O2.output, O2.size, fun j hj hn => O2.block j hj (fun e => hn (by subst e; exact h.kr))⟩ : Off K w4 _) (fun _ _ e => e)), fun c hc => ?_⟩
  · rcases ha.2 with ⟨e, e0⟩ | ⟨g, cap, cur, e, hg, hblk, hn, hm, hs, ht⟩
    · exact .inl ⟨⟨none, 0, e⟩, List.eq_nil_of_length_eq_zero e0⟩
    · have hgr : g ≠ r := by omega
      have hrow := Sv.own_row (c := Sv.nc) (k := 7) Sv.nc_len ha
      have hgl : g < w4.heap.size := BlkW.lt (t := 74) (cs := cur) hblk
      have hbk := O2.block g hgl hgr
      refine .inr ⟨g, 0, cap, cur, e, hn, Nat.le_trans (Nat.le_of_lt (Nat.lt_of_le_of_lt (h.low r h.kr).1 hz)) hg, hbk.trans hblk, fun k => ?_, fun i hi => ?_⟩
      · have := (h.low g (h.kn g k)).2; omega
      · rcases hrow with ⟨_, e2⟩ | ⟨b', off', cap', e3, _, _, hc⟩
        · have hi0 : i < fs.length := hi
          rw [e2] at hi0; exact absurd hi0 (Nat.not_lt_zero _)
        · rw [e] at e3
          injection e3 with e4 e5 e6
          injection e4 with e7
          injection e7 with e8 e9
          subst e8; subst e9
          exact range_block (hc i hi) hbk
  · rcases hc with hc | hc
    · exact ⟨(h.low c hc).1, Nat.lt_of_lt_of_le (h.low c hc).2 (Nat.le_trans hb.size O2.size)⟩
    · have := ha.lt c hc
      exact ⟨by have := (h.low r h.kr).1; omega, Nat.lt_of_lt_of_le this.2 O2.size⟩
  · rcases hc with hc | hc
    · exact .inl hc
    · exact .inr (ha.lt c hc).1
set_option maxRecDepth 100000 in
set_option maxHeartbeats 1000000 in
theorem scan_more (h : RiteP w B r sv fv nv m K) (x : Wd × Bool) (hd : m.st.done = 7) (he : m.eng = 2) (ht : m.thr ≤ 6) (hsl : m.st.said.length + 1 < m.thr * 9) :
    Calls Tryz.prog 94 #[.pointer (some ⟨r, 0, none⟩), rpv x] w (RPost w B r K ((setSaid m x.1).hear)) := by
  have HRL := Lib.hid (fun b (e : K b) => (show b ≠ w.heap.size from Nat.ne_of_lt (h.low b e).2))
  replace HRL : Hid (∀ b, K b → b ≠ w.heap.size) := HRL
  have h1 := h.below (below_alloc (Below.refl _ _) (.cells #[.int .i64 x.1.slot, .int .i64 x.1.gen, .int .i64 x.1.tag, .int .i64 x.1.num, .bool x.1.mark, .bool x.2] 63))
  have HX := Lib.hid (box_rep w x)
  have HB0 := Lib.hid (below_alloc (Below.refl w.heap.size w) (.cells #[.int .i64 x.1.slot, .int .i64 x.1.gen, .int .i64 x.1.tag, .int .i64 x.1.num, .bool x.1.mark, .bool x.2] 63))
  have HR := Lib.hid h1
  clear h h1
  unfold rpv
  go_enter Tryz.func94, Tryz.ntmps94
  go_upto_region 1 with fail
  generalize w.alloc (.cells #[.int .i64 x.1.slot, .int .i64 x.1.gen, .int .i64 x.1.tag, .int .i64 x.1.num, .bool x.1.mark, .bool x.2] 63) = W at HR HX HB0 ⊢
  have hX := HX.out
  have hzx := BlkW.lt hX
  have hrx : w.heap.size ≠ r := fun e => BlkW.ne_ hX HR.out.at_ (by decide) e
  have hkx : ¬ K w.heap.size := fun e => HRL.out _ e rfl
  obtain ⟨b0, b1, b2, b3, b4, b5⟩ := rep6 hX
  have hz := BlkW.lt HR.out.at_
  have cd := HR.out.at_.done
  have ce := HR.out.at_.fix.1
  clear hX HX
  generalize w.heap.size = g at hzx hrx hkx b0 b1 b2 b3 b4 b5 ⊢
  have HEN := Lib.hid he
  have HT := Lib.hid ht
  rw [hd] at cd
  obtain ⟨i5, hi5, hz5, hs5, hy5⟩ := info_parts infoWd
  have hBz : B ≤ W.heap.size := Nat.le_of_lt (Nat.lt_of_le_of_lt (HR.out.low r HR.out.kr).1 (HR.out.low r HR.out.kr).2)
  have c50 := HR.out.at_.rows.1
  have hne := HR.out.ne.1
  obtain ⟨L, hL⟩ : ∃ L, L = m.st.said.length := ⟨_, rfl⟩
  have N1 := Lib.hid (show W.drew.ownsRow B 34 5 sv L (Sv.flat Sv.wc m.st.said) by rw [hL]; exact HR.out.said)
  have hLs : L ≤ 1000 := by omega
  have hsl' := hsl
  have HL := Lib.hid hL
  have HSL := Lib.hid hsl
  clear hd hL hsl he ht
  go_upto_region 14 with fail
  refine wp_region_noPanic ?_
  refine wp_region_held_drew (S := (fun w' => w'.cell? ⟨g, 0, none⟩ = some (.int .i64 x.1.slot) ∧ w'.cell? ⟨g, 1, none⟩ = some (.int .i64 x.1.gen) ∧ w'.cell? ⟨g, 2, none⟩ = some (.int .i64 x.1.tag) ∧ w'.cell? ⟨g, 3, none⟩ = some (.int .i64 x.1.num) ∧ w'.cell? ⟨g, 4, none⟩ = some (.bool x.1.mark))) (by kernel_rfl) ?_ (fun hHeld => ?_)
  · (try dsimp only)
    (first
      | go_keep
      | (go_split_ands
         (repeat' apply And.intro) <;> first | exact grown_cell hg1 hneg (by assumption) | (rw [World.cell?_setCell_far _ _ _ _ (fun e => hrx e.symm)]; assumption)))
  refine wpAnyH_take (i := 0) (v := ?_) rfl (by kernel_rfl) (by kernel_rfl) (by kernel_rfl) (fun _ _ _ h => h) (Or.inl ⟨by rfl, ?_⟩) (by assumption) ?_
  rotate_left
  · (intro w hSw; (try dsimp only at hSw); go_simp; (try with_reducible rfl))
  try simp only [Act.put, List.getElem_toArray, List.getElem_cons_succ, List.getElem_cons_zero, List.setIfInBounds_toArray, List.set_cons_zero, List.set_cons_succ]
  refine wpAnyH_take (i := 1) (v := ?_) rfl (by kernel_rfl) (by kernel_rfl) (by kernel_rfl) (fun _ _ _ h => h) (Or.inl ⟨by rfl, ?_⟩) (by assumption) ?_
  rotate_left
  · (intro w hSw; (try dsimp only at hSw); go_simp; (try with_reducible rfl))
  try simp only [Act.put, List.getElem_toArray, List.getElem_cons_succ, List.getElem_cons_zero, List.setIfInBounds_toArray, List.set_cons_zero, List.set_cons_succ]
  refine wpAnyH_take (i := 2) (v := ?_) rfl (by kernel_rfl) (by kernel_rfl) (by kernel_rfl) (fun _ _ _ h => h) (Or.inl ⟨by rfl, ?_⟩) (by assumption) ?_
  rotate_left
  · (intro w hSw; (try dsimp only at hSw); go_simp; (try with_reducible rfl))
  try simp only [Act.put, List.getElem_toArray, List.getElem_cons_succ, List.getElem_cons_zero, List.setIfInBounds_toArray, List.set_cons_zero, List.set_cons_succ]
  refine wpAnyH_take (i := 3) (v := ?_) rfl (by kernel_rfl) (by kernel_rfl) (by kernel_rfl) (fun _ _ _ h => h) (Or.inl ⟨by rfl, ?_⟩) (by assumption) ?_
  rotate_left
  · (intro w hSw; (try dsimp only at hSw); go_simp; (try with_reducible rfl))
  try simp only [Act.put, List.getElem_toArray, List.getElem_cons_succ, List.getElem_cons_zero, List.setIfInBounds_toArray, List.set_cons_zero, List.set_cons_succ]
  refine wpAnyH_take (i := 4) (v := ?_) rfl (by kernel_rfl) (by kernel_rfl) (by kernel_rfl) (fun _ _ _ h => h) (Or.inl ⟨by rfl, ?_⟩) (by assumption) ?_
  rotate_left
  · (intro w hSw; (try dsimp only at hSw); go_simp; (try with_reducible rfl))
  try simp only [Act.put, List.getElem_toArray, List.getElem_cons_succ, List.getElem_cons_zero, List.setIfInBounds_toArray, List.set_cons_zero, List.set_cons_succ]
  refine wpAnyH_take (i := 6) (v := ?_) rfl (by kernel_rfl) (by kernel_rfl) (by kernel_rfl) (fun _ _ _ h => h) (Or.inl ⟨by rfl, ?_⟩) (by assumption) ?_
  rotate_left
  · (intro w hSw; (try dsimp only at hSw); go_simp; (try with_reducible rfl))
  try simp only [Act.put, List.getElem_toArray, List.getElem_cons_succ, List.getElem_cons_zero, List.setIfInBounds_toArray, List.set_cons_zero, List.set_cons_succ]
  refine wpAnyH_take (i := 7) (v := ?_) rfl (by kernel_rfl) (by kernel_rfl) (by kernel_rfl) (fun _ _ _ h => h) (Or.inl ⟨by rfl, ?_⟩) (by assumption) ?_
  rotate_left
  · (intro w hSw; (try dsimp only at hSw); go_simp; (try with_reducible rfl))
  try simp only [Act.put, List.getElem_toArray, List.getElem_cons_succ, List.getElem_cons_zero, List.setIfInBounds_toArray, List.set_cons_zero, List.set_cons_succ]
  refine wpAnyH_ready (rs := [5, 8]) (by kernel_rfl) (by simp) ?_
  refine AllReadyH.cons rfl (fun K2 hK => ?_) (AllReadyH.cons rfl (fun K2 hK => ?_) (AllReadyH.nil))
  rw [if_pos (by rfl)]
  go_simp
  refine hK.out _ _ ?_ (fun hHeld => ?_)
  · (try dsimp only)
    (first
      | go_keep
      | (go_split_ands
         (repeat' apply And.intro) <;> first | exact grown_cell hg1 hneg (by assumption) | (rw [World.cell?_setCell_far _ _ _ _ (fun e => hrx e.symm)]; assumption)))
  clear hK K2
  try simp only [Act.put, List.getElem_toArray, List.getElem_cons_succ, List.getElem_cons_zero, List.setIfInBounds_toArray, List.set_cons_zero, List.set_cons_succ]
  refine wpAnyH_ready (rs := [8]) (by kernel_rfl) (by simp) ?_
  refine AllReadyH.cons rfl (fun K2 hK => ?_) AllReadyH.nil
  rw [if_pos (by rfl)]
  go_simp
  refine hK.out _ _ ?_ (fun hHeld => ?_)
  · (try dsimp only)
    (first
      | go_keep
      | (go_split_ands
         (repeat' apply And.intro) <;> first | exact grown_cell hg1 hneg (by assumption) | (rw [World.cell?_setCell_far _ _ _ _ (fun e => hrx e.symm)]; assumption)))
  clear hK K2
  try simp only [Act.put, List.getElem_toArray, List.getElem_cons_succ, List.getElem_cons_zero, List.setIfInBounds_toArray, List.set_cons_zero, List.set_cons_succ]
  refine wpAnyH_ready (rs := [9]) (by kernel_rfl) (by simp) ?_
  refine AllReadyH.cons rfl (fun K2 hK => ?_) AllReadyH.nil
  (first
    | ((refine Sv.step_append_row _ Sv.wc_len (by decide) Sv.wc_one rfl (.tmp 52) (.tmp 55) 71 rfl B 34 i5 _ 40 Tryz.underlying71 hi5 hz5 hs5 hy5 rfl sv L _ (by rfl) (N1.out.alloc _) _ [x.1] (by rfl) (.inr ⟨W.heap.size, 0, 1, rfl, by simp, Nat.le_refl 1, fun i hi j v hv => ?ro⟩) (by simp only [maxLen]; simp; omega) (by simp; omega) (by simp; omega) ?_); (case ro => (obtain rfl : i = 0 := by simp at hi; omega); rw [show 0 + 0 * 5 + j = j by omega]; exact ((BlkW.new _ _ _).cell j).trans (by rw [List.getElem?_toArray]; exact hv)); rintro v1 u1 ⟨ho1, hg1, ha1, hl1⟩; obtain ⟨ao1, cp1, ev1⟩ := Sv.own_slice ho1; subst ev1; have hb2 := below_alloc (show Below W.heap.size W W.drew from (Below.refl _ _).drew) (.cells #[.int .i64 x.1.slot, .int .i64 x.1.gen, .int .i64 x.1.tag, .int .i64 x.1.num, .bool x.1.mark] 34); have HPX := HR.out.below hb2; have RX := HPX.at_; have RU := RtAt.off RX ((Off.refl (fun j => sv.ownBlock = some j) _).grown hg1 (fun k e => .inl e)) hne; have u50 := RU.rows.1; have uf := RU.frozen 50; have hz3 := BlkW.lt RU; have hneg : sv.ownBlock ≠ some g := fun e => hkx (HR.out.ks g e); replace RU := Lib.hid RU; replace HPX := Lib.hid HPX; replace RX := Lib.hid RX; replace hb2 := Lib.hid hb2))
  refine hK.out _ _ ?_ (fun hHeld => ?_)
  · (try dsimp only)
    (first
      | go_keep
      | (go_split_ands
         (repeat' apply And.intro) <;> first | exact grown_cell hg1 hneg (by assumption) | (rw [World.cell?_setCell_far _ _ _ _ (fun e => hrx e.symm)]; assumption)))
  clear hK K2
  try simp only [Act.put, List.getElem_toArray, List.getElem_cons_succ, List.getElem_cons_zero, List.setIfInBounds_toArray, List.set_cons_zero, List.set_cons_succ]
  refine wpAnyH_take (i := 10) (v := ?_) rfl (by kernel_rfl) (by kernel_rfl) (by kernel_rfl) (fun _ _ _ h => h) (Or.inl ⟨by rfl, ?_⟩) (by assumption) ?_
  rotate_left
  · (intro w hSw; (try dsimp only at hSw); go_simp; (try with_reducible rfl))
  try simp only [Act.put, List.getElem_toArray, List.getElem_cons_succ, List.getElem_cons_zero, List.setIfInBounds_toArray, List.set_cons_zero, List.set_cons_succ]
  refine wpAnyH_take (i := 11) (v := ?_) rfl (by kernel_rfl) (by kernel_rfl) (by kernel_rfl) (fun _ _ _ h => h) (Or.inl ⟨by rfl, ?_⟩) (by assumption) ?_
  rotate_left
  · (intro w hSw; (try dsimp only at hSw); go_simp; (try with_reducible rfl))
  try simp only [Act.put, List.getElem_toArray, List.getElem_cons_succ, List.getElem_cons_zero, List.setIfInBounds_toArray, List.set_cons_zero, List.set_cons_succ]
  refine wpAnyH_take (i := 12) (v := ?_) rfl (by kernel_rfl) (by kernel_rfl) (by kernel_rfl) (fun _ _ _ h => h) (Or.inl ⟨by rfl, ?_⟩) (by assumption) ?_
  rotate_left
  · (intro w hSw; (try dsimp only at hSw); go_simp; (try with_reducible rfl))
  try simp only [Act.put, List.getElem_toArray, List.getElem_cons_succ, List.getElem_cons_zero, List.setIfInBounds_toArray, List.set_cons_zero, List.set_cons_succ]
  refine wpAnyH_ready (rs := [13]) (by kernel_rfl) (by simp) ?_
  refine AllReadyH.cons rfl (fun K2 hK => ?_) AllReadyH.nil
  rw [if_pos (by rfl)]
  go_simp
  refine hK.out _ _ ?_ (fun hHeld => ?_)
  · (try dsimp only)
    (first
      | go_keep
      | (go_split_ands
         (repeat' apply And.intro) <;> first | exact grown_cell hg1 hneg (by assumption) | (rw [World.cell?_setCell_far _ _ _ _ (fun e => hrx e.symm)]; assumption)))
  clear hK K2
  try simp only [Act.put, List.getElem_toArray, List.getElem_cons_succ, List.getElem_cons_zero, List.setIfInBounds_toArray, List.set_cons_zero, List.set_cons_succ]
  refine wpAnyH_done (by kernel_rfl) ?_ _
  refine NoPanic.normal ?_
  rotate_left
  rw [if_pos (by rfl)]
  go_simp
  refine hK.out _ _ ?_ (fun hHeld => ?_)
  · (try dsimp only)
    (first
      | go_keep
      | (go_split_ands
         (repeat' apply And.intro) <;> first | exact grown_cell hg1 hneg (by assumption) | (rw [World.cell?_setCell_far _ _ _ _ (fun e => hrx e.symm)]; assumption)))
  clear hK K2
  try simp only [Act.put, List.getElem_toArray, List.getElem_cons_succ, List.getElem_cons_zero, List.setIfInBounds_toArray, List.set_cons_zero, List.set_cons_succ]
  refine wpAnyH_ready (rs := [5]) (by kernel_rfl) (by simp) ?_
  refine AllReadyH.cons rfl (fun K2 hK => ?_) AllReadyH.nil
  rw [if_pos (by rfl)]
  go_simp
  refine hK.out _ _ ?_ (fun hHeld => ?_)
  · (try dsimp only)
    (first
      | go_keep
      | (go_split_ands
         (repeat' apply And.intro) <;> first | exact grown_cell hg1 hneg (by assumption) | (rw [World.cell?_setCell_far _ _ _ _ (fun e => hrx e.symm)]; assumption)))
  clear hK K2
  try simp only [Act.put, List.getElem_toArray, List.getElem_cons_succ, List.getElem_cons_zero, List.setIfInBounds_toArray, List.set_cons_zero, List.set_cons_succ]
  refine wpAnyH_ready (rs := [9]) (by kernel_rfl) (by simp) ?_
  refine AllReadyH.cons rfl (fun K2 hK => ?_) AllReadyH.nil
  (first
    | ((refine Sv.step_append_row _ Sv.wc_len (by decide) Sv.wc_one rfl (.tmp 52) (.tmp 55) 71 rfl B 34 i5 _ 40 Tryz.underlying71 hi5 hz5 hs5 hy5 rfl sv L _ (by rfl) (N1.out.alloc _) _ [x.1] (by rfl) (.inr ⟨W.heap.size, 0, 1, rfl, by simp, Nat.le_refl 1, fun i hi j v hv => ?ro⟩) (by simp only [maxLen]; simp; omega) (by simp; omega) (by simp; omega) ?_); (case ro => (obtain rfl : i = 0 := by simp at hi; omega); rw [show 0 + 0 * 5 + j = j by omega]; exact ((BlkW.new _ _ _).cell j).trans (by rw [List.getElem?_toArray]; exact hv)); rintro v1 u1 ⟨ho1, hg1, ha1, hl1⟩; obtain ⟨ao1, cp1, ev1⟩ := Sv.own_slice ho1; subst ev1; have hb2 := below_alloc (show Below W.heap.size W W.drew from (Below.refl _ _).drew) (.cells #[.int .i64 x.1.slot, .int .i64 x.1.gen, .int .i64 x.1.tag, .int .i64 x.1.num, .bool x.1.mark] 34); have HPX := HR.out.below hb2; have RX := HPX.at_; have RU := RtAt.off RX ((Off.refl (fun j => sv.ownBlock = some j) _).grown hg1 (fun k e => .inl e)) hne; have u50 := RU.rows.1; have uf := RU.frozen 50; have hz3 := BlkW.lt RU; have hneg : sv.ownBlock ≠ some g := fun e => hkx (HR.out.ks g e); replace RU := Lib.hid RU; replace HPX := Lib.hid HPX; replace RX := Lib.hid RX; replace hb2 := Lib.hid hb2))
  refine hK.out _ _ ?_ (fun hHeld => ?_)
  · (try dsimp only)
    (first
      | go_keep
      | (go_split_ands
         (repeat' apply And.intro) <;> first | exact grown_cell hg1 hneg (by assumption) | (rw [World.cell?_setCell_far _ _ _ _ (fun e => hrx e.symm)]; assumption)))
  clear hK K2
  try simp only [Act.put, List.getElem_toArray, List.getElem_cons_succ, List.getElem_cons_zero, List.setIfInBounds_toArray, List.set_cons_zero, List.set_cons_succ]
  refine wpAnyH_take (i := 10) (v := ?_) rfl (by kernel_rfl) (by kernel_rfl) (by kernel_rfl) (fun _ _ _ h => h) (Or.inl ⟨by rfl, ?_⟩) (by assumption) ?_
  rotate_left
  · (intro w hSw; (try dsimp only at hSw); go_simp; (try with_reducible rfl))
  try simp only [Act.put, List.getElem_toArray, List.getElem_cons_succ, List.getElem_cons_zero, List.setIfInBounds_toArray, List.set_cons_zero, List.set_cons_succ]
  refine wpAnyH_take (i := 11) (v := ?_) rfl (by kernel_rfl) (by kernel_rfl) (by kernel_rfl) (fun _ _ _ h => h) (Or.inl ⟨by rfl, ?_⟩) (by assumption) ?_
  rotate_left
  · (intro w hSw; (try dsimp only at hSw); go_simp; (try with_reducible rfl))
  try simp only [Act.put, List.getElem_toArray, List.getElem_cons_succ, List.getElem_cons_zero, List.setIfInBounds_toArray, List.set_cons_zero, List.set_cons_succ]
  refine wpAnyH_take (i := 12) (v := ?_) rfl (by kernel_rfl) (by kernel_rfl) (by kernel_rfl) (fun _ _ _ h => h) (Or.inl ⟨by rfl, ?_⟩) (by assumption) ?_
  rotate_left
  · (intro w hSw; (try dsimp only at hSw); go_simp; (try with_reducible rfl))
  try simp only [Act.put, List.getElem_toArray, List.getElem_cons_succ, List.getElem_cons_zero, List.setIfInBounds_toArray, List.set_cons_zero, List.set_cons_succ]
  refine wpAnyH_ready (rs := [13]) (by kernel_rfl) (by simp) ?_
  refine AllReadyH.cons rfl (fun K2 hK => ?_) AllReadyH.nil
  rw [if_pos (by rfl)]
  go_simp
  refine hK.out _ _ ?_ (fun hHeld => ?_)
  · (try dsimp only)
    (first
      | go_keep
      | (go_split_ands
         (repeat' apply And.intro) <;> first | exact grown_cell hg1 hneg (by assumption) | (rw [World.cell?_setCell_far _ _ _ _ (fun e => hrx e.symm)]; assumption)))
  clear hK K2
  try simp only [Act.put, List.getElem_toArray, List.getElem_cons_succ, List.getElem_cons_zero, List.setIfInBounds_toArray, List.set_cons_zero, List.set_cons_succ]
  refine wpAnyH_done (by kernel_rfl) ?_ _
  refine NoPanic.normal ?_
  all_goals
    obtain ⟨K1, hp1, ho2, hk1⟩ := HPX.out.heardP hg1 x.1 (by rw [← HL.out]; exact ho1) ha1
    have HB2 := Lib.hid (below_trans HB0.out hb2.out)
    have HP1 := Lib.hid (show RiteP _ B r _ fv nv (setSaid m x.1) K1 from hp1)
    have HO2 := Lib.hid ho2
    have HK1 := Lib.hid hk1
    have d3 := off_cell HO2.out (by have := hb2.out.size; omega) hkx (keep_cell hb2.out b3)
    have hg2 : g < (u1.setCell ⟨r, 50, none⟩ (.slice ao1 (L + 1) cp1)).heap.size := Nat.lt_of_lt_of_le hzx (Nat.le_trans hb2.out.size HO2.out.size)
    clear hp1 ho2 hk1 ho1 hg1 ha1 hl1 u50 uf RU RX HPX hb2 N1 c50 hne hneg HR b0 b1 b2 b3 b4 b5
    generalize u1.setCell ⟨r, 50, none⟩ (.slice ao1 (L + 1) cp1) = W2 at HP1 HO2 d3 hg2 ⊢
    have hsl1 : (setSaid m x.1).st.said.length = L + 1 := by show (m.st.said ++ [x.1]).length = _; rw [List.length_append, HL.out]; rfl
    have hisl : (Value.slice ao1 (L + 1) cp1).isSliceOf (setSaid m x.1).st.said.length := ⟨ao1, cp1, by rw [hsl1]⟩
    have hw : (setSaid m x.1).saysWords = true := by unfold Rt.saysWords; rw [show (setSaid m x.1).eng = 2 from HEN.out]; rfl
    have hws : (setSaid m x.1).saysSpan = false := by unfold Rt.saysSpan; rw [show (setSaid m x.1).eng = 2 from HEN.out]; rfl
    have hlt : (setSaid m x.1).st.said.length < (setSaid m x.1).thr * 9 := by rw [hsl1, HL.out]; exact HSL.out
    have HH : Hid ((setSaid m x.1).hear = (setSaid m x.1).load (0, 0, (keepAt ((setSaid m x.1).st.said.length / 9) ((setSaid m x.1).st.said.length % 9) : Nat)) 7) := Lib.hid (by unfold Rt.hear; rw [hw]; rfl)
    have HLI := Lib.hid (listen_more HP1.out.at_ hisl HT.out hw hlt)
    clear hlt hw hws hsl1 hisl
    go_wp2_with fail
    refine HLI.out.mono ?_
    rintro e w3 ⟨rfl, h1, h2⟩
    go_wp2
    first
      | go_end0
      | refine bodyPost_ret (results_none rfl _ _ _) rfl ?_
    rw [HH.out]
    exact ⟨rfl, Lib.hid (RStep.below HB2.out (RStep.trans HO2.out HK1.out (HP1.out.step_only h1.out h2.out (.inl ⟨rfl, rfl⟩) (.inl ⟨rfl, rfl⟩) rfl)))⟩
set_option maxRecDepth 100000 in
set_option maxHeartbeats 1000000 in
theorem scan_all (h : RiteP w B r sv fv nv m K) (x : Wd × Bool) (hd : m.st.done = 7) (he : m.eng = 2) (ht : m.thr ≤ 6) (hsl : m.st.said.length + 1 = m.thr * 9) (hl : m.notes.length ≤ 200) (hF : FreeOk (setFree (setSaid m x.1) ((setSaid m x.1).loose x.1.num))) :
    Calls Tryz.prog 94 #[.pointer (some ⟨r, 0, none⟩), rpv x] w (RPost w B r K ((setSaid m x.1).free x.1.num)) := by
  have HRL := Lib.hid (fun b (e : K b) => (show b ≠ w.heap.size from Nat.ne_of_lt (h.low b e).2))
  replace HRL : Hid (∀ b, K b → b ≠ w.heap.size) := HRL
  have h1 := h.below (below_alloc (Below.refl _ _) (.cells #[.int .i64 x.1.slot, .int .i64 x.1.gen, .int .i64 x.1.tag, .int .i64 x.1.num, .bool x.1.mark, .bool x.2] 63))
  have HX := Lib.hid (box_rep w x)
  have HB0 := Lib.hid (below_alloc (Below.refl w.heap.size w) (.cells #[.int .i64 x.1.slot, .int .i64 x.1.gen, .int .i64 x.1.tag, .int .i64 x.1.num, .bool x.1.mark, .bool x.2] 63))
  have HR := Lib.hid h1
  clear h h1
  unfold rpv
  go_enter Tryz.func94, Tryz.ntmps94
  go_upto_region 1 with fail
  generalize w.alloc (.cells #[.int .i64 x.1.slot, .int .i64 x.1.gen, .int .i64 x.1.tag, .int .i64 x.1.num, .bool x.1.mark, .bool x.2] 63) = W at HR HX HB0 ⊢
  have hX := HX.out
  have hzx := BlkW.lt hX
  have hrx : w.heap.size ≠ r := fun e => BlkW.ne_ hX HR.out.at_ (by decide) e
  have hkx : ¬ K w.heap.size := fun e => HRL.out _ e rfl
  obtain ⟨b0, b1, b2, b3, b4, b5⟩ := rep6 hX
  have hz := BlkW.lt HR.out.at_
  have cd := HR.out.at_.done
  have ce := HR.out.at_.fix.1
  clear hX HX
  generalize w.heap.size = g at hzx hrx hkx b0 b1 b2 b3 b4 b5 ⊢
  have HEN := Lib.hid he
  have HT := Lib.hid ht
  have HF := Lib.hid hF
  have HLN := Lib.hid hl
  rw [hd] at cd
  obtain ⟨i5, hi5, hz5, hs5, hy5⟩ := info_parts infoWd
  have hBz : B ≤ W.heap.size := Nat.le_of_lt (Nat.lt_of_le_of_lt (HR.out.low r HR.out.kr).1 (HR.out.low r HR.out.kr).2)
  have c50 := HR.out.at_.rows.1
  have hne := HR.out.ne.1
  obtain ⟨L, hL⟩ : ∃ L, L = m.st.said.length := ⟨_, rfl⟩
  have N1 := Lib.hid (show W.drew.ownsRow B 34 5 sv L (Sv.flat Sv.wc m.st.said) by rw [hL]; exact HR.out.said)
  have hLs : L ≤ 1000 := by omega
  have HL := Lib.hid hL
  have HSL := Lib.hid hsl
  clear hd hL hsl he ht hF hl
  go_upto_region 14 with fail
  refine wp_region_noPanic ?_
  refine wp_region_held_drew (S := (fun w' => w'.cell? ⟨g, 0, none⟩ = some (.int .i64 x.1.slot) ∧ w'.cell? ⟨g, 1, none⟩ = some (.int .i64 x.1.gen) ∧ w'.cell? ⟨g, 2, none⟩ = some (.int .i64 x.1.tag) ∧ w'.cell? ⟨g, 3, none⟩ = some (.int .i64 x.1.num) ∧ w'.cell? ⟨g, 4, none⟩ = some (.bool x.1.mark))) (by kernel_rfl) ?_ (fun hHeld => ?_)
  · (try dsimp only)
    (first
      | go_keep
      | (go_split_ands
         (repeat' apply And.intro) <;> first | exact grown_cell hg1 hneg (by assumption) | (rw [World.cell?_setCell_far _ _ _ _ (fun e => hrx e.symm)]; assumption)))
  refine wpAnyH_take (i := 0) (v := ?_) rfl (by kernel_rfl) (by kernel_rfl) (by kernel_rfl) (fun _ _ _ h => h) (Or.inl ⟨by rfl, ?_⟩) (by assumption) ?_
  rotate_left
  · (intro w hSw; (try dsimp only at hSw); go_simp; (try with_reducible rfl))
  try simp only [Act.put, List.getElem_toArray, List.getElem_cons_succ, List.getElem_cons_zero, List.setIfInBounds_toArray, List.set_cons_zero, List.set_cons_succ]
  refine wpAnyH_take (i := 1) (v := ?_) rfl (by kernel_rfl) (by kernel_rfl) (by kernel_rfl) (fun _ _ _ h => h) (Or.inl ⟨by rfl, ?_⟩) (by assumption) ?_
  rotate_left
  · (intro w hSw; (try dsimp only at hSw); go_simp; (try with_reducible rfl))
  try simp only [Act.put, List.getElem_toArray, List.getElem_cons_succ, List.getElem_cons_zero, List.setIfInBounds_toArray, List.set_cons_zero, List.set_cons_succ]
  refine wpAnyH_take (i := 2) (v := ?_) rfl (by kernel_rfl) (by kernel_rfl) (by kernel_rfl) (fun _ _ _ h => h) (Or.inl ⟨by rfl, ?_⟩) (by assumption) ?_
  rotate_left
  · (intro w hSw; (try dsimp only at hSw); go_simp; (try with_reducible rfl))
  try simp only [Act.put, List.getElem_toArray, List.getElem_cons_succ, List.getElem_cons_zero, List.setIfInBounds_toArray, List.set_cons_zero, List.set_cons_succ]
  refine wpAnyH_take (i := 3) (v := ?_) rfl (by kernel_rfl) (by kernel_rfl) (by kernel_rfl) (fun _ _ _ h => h) (Or.inl ⟨by rfl, ?_⟩) (by assumption) ?_
  rotate_left
  · (intro w hSw; (try dsimp only at hSw); go_simp; (try with_reducible rfl))
  try simp only [Act.put, List.getElem_toArray, List.getElem_cons_succ, List.getElem_cons_zero, List.setIfInBounds_toArray, List.set_cons_zero, List.set_cons_succ]
  refine wpAnyH_take (i := 4) (v := ?_) rfl (by kernel_rfl) (by kernel_rfl) (by kernel_rfl) (fun _ _ _ h => h) (Or.inl ⟨by rfl, ?_⟩) (by assumption) ?_
  rotate_left
  · (intro w hSw; (try dsimp only at hSw); go_simp; (try with_reducible rfl))
  try simp only [Act.put, List.getElem_toArray, List.getElem_cons_succ, List.getElem_cons_zero, List.setIfInBounds_toArray, List.set_cons_zero, List.set_cons_succ]
  refine wpAnyH_take (i := 6) (v := ?_) rfl (by kernel_rfl) (by kernel_rfl) (by kernel_rfl) (fun _ _ _ h => h) (Or.inl ⟨by rfl, ?_⟩) (by assumption) ?_
  rotate_left
  · (intro w hSw; (try dsimp only at hSw); go_simp; (try with_reducible rfl))
  try simp only [Act.put, List.getElem_toArray, List.getElem_cons_succ, List.getElem_cons_zero, List.setIfInBounds_toArray, List.set_cons_zero, List.set_cons_succ]
  refine wpAnyH_take (i := 7) (v := ?_) rfl (by kernel_rfl) (by kernel_rfl) (by kernel_rfl) (fun _ _ _ h => h) (Or.inl ⟨by rfl, ?_⟩) (by assumption) ?_
  rotate_left
  · (intro w hSw; (try dsimp only at hSw); go_simp; (try with_reducible rfl))
  try simp only [Act.put, List.getElem_toArray, List.getElem_cons_succ, List.getElem_cons_zero, List.setIfInBounds_toArray, List.set_cons_zero, List.set_cons_succ]
  refine wpAnyH_ready (rs := [5, 8]) (by kernel_rfl) (by simp) ?_
  refine AllReadyH.cons rfl (fun K2 hK => ?_) (AllReadyH.cons rfl (fun K2 hK => ?_) (AllReadyH.nil))
  rw [if_pos (by rfl)]
  go_simp
  refine hK.out _ _ ?_ (fun hHeld => ?_)
  · (try dsimp only)
    (first
      | go_keep
      | (go_split_ands
         (repeat' apply And.intro) <;> first | exact grown_cell hg1 hneg (by assumption) | (rw [World.cell?_setCell_far _ _ _ _ (fun e => hrx e.symm)]; assumption)))
  clear hK K2
  try simp only [Act.put, List.getElem_toArray, List.getElem_cons_succ, List.getElem_cons_zero, List.setIfInBounds_toArray, List.set_cons_zero, List.set_cons_succ]
  refine wpAnyH_ready (rs := [8]) (by kernel_rfl) (by simp) ?_
  refine AllReadyH.cons rfl (fun K2 hK => ?_) AllReadyH.nil
  rw [if_pos (by rfl)]
  go_simp
  refine hK.out _ _ ?_ (fun hHeld => ?_)
  · (try dsimp only)
    (first
      | go_keep
      | (go_split_ands
         (repeat' apply And.intro) <;> first | exact grown_cell hg1 hneg (by assumption) | (rw [World.cell?_setCell_far _ _ _ _ (fun e => hrx e.symm)]; assumption)))
  clear hK K2
  try simp only [Act.put, List.getElem_toArray, List.getElem_cons_succ, List.getElem_cons_zero, List.setIfInBounds_toArray, List.set_cons_zero, List.set_cons_succ]
  refine wpAnyH_ready (rs := [9]) (by kernel_rfl) (by simp) ?_
  refine AllReadyH.cons rfl (fun K2 hK => ?_) AllReadyH.nil
  (first
    | ((refine Sv.step_append_row _ Sv.wc_len (by decide) Sv.wc_one rfl (.tmp 52) (.tmp 55) 71 rfl B 34 i5 _ 40 Tryz.underlying71 hi5 hz5 hs5 hy5 rfl sv L _ (by rfl) (N1.out.alloc _) _ [x.1] (by rfl) (.inr ⟨W.heap.size, 0, 1, rfl, by simp, Nat.le_refl 1, fun i hi j v hv => ?ro⟩) (by simp only [maxLen]; simp; omega) (by simp; omega) (by simp; omega) ?_); (case ro => (obtain rfl : i = 0 := by simp at hi; omega); rw [show 0 + 0 * 5 + j = j by omega]; exact ((BlkW.new _ _ _).cell j).trans (by rw [List.getElem?_toArray]; exact hv)); rintro v1 u1 ⟨ho1, hg1, ha1, hl1⟩; obtain ⟨ao1, cp1, ev1⟩ := Sv.own_slice ho1; subst ev1; have hb2 := below_alloc (show Below W.heap.size W W.drew from (Below.refl _ _).drew) (.cells #[.int .i64 x.1.slot, .int .i64 x.1.gen, .int .i64 x.1.tag, .int .i64 x.1.num, .bool x.1.mark] 34); have HPX := HR.out.below hb2; have RX := HPX.at_; have RU := RtAt.off RX ((Off.refl (fun j => sv.ownBlock = some j) _).grown hg1 (fun k e => .inl e)) hne; have u50 := RU.rows.1; have uf := RU.frozen 50; have hz3 := BlkW.lt RU; have hneg : sv.ownBlock ≠ some g := fun e => hkx (HR.out.ks g e); replace RU := Lib.hid RU; replace HPX := Lib.hid HPX; replace RX := Lib.hid RX; replace hb2 := Lib.hid hb2))
  refine hK.out _ _ ?_ (fun hHeld => ?_)
  · (try dsimp only)
    (first
      | go_keep
      | (go_split_ands
         (repeat' apply And.intro) <;> first | exact grown_cell hg1 hneg (by assumption) | (rw [World.cell?_setCell_far _ _ _ _ (fun e => hrx e.symm)]; assumption)))
  clear hK K2
  try simp only [Act.put, List.getElem_toArray, List.getElem_cons_succ, List.getElem_cons_zero, List.setIfInBounds_toArray, List.set_cons_zero, List.set_cons_succ]
  refine wpAnyH_take (i := 10) (v := ?_) rfl (by kernel_rfl) (by kernel_rfl) (by kernel_rfl) (fun _ _ _ h => h) (Or.inl ⟨by rfl, ?_⟩) (by assumption) ?_
  rotate_left
  · (intro w hSw; (try dsimp only at hSw); go_simp; (try with_reducible rfl))
  try simp only [Act.put, List.getElem_toArray, List.getElem_cons_succ, List.getElem_cons_zero, List.setIfInBounds_toArray, List.set_cons_zero, List.set_cons_succ]
  refine wpAnyH_take (i := 11) (v := ?_) rfl (by kernel_rfl) (by kernel_rfl) (by kernel_rfl) (fun _ _ _ h => h) (Or.inl ⟨by rfl, ?_⟩) (by assumption) ?_
  rotate_left
  · (intro w hSw; (try dsimp only at hSw); go_simp; (try with_reducible rfl))
  try simp only [Act.put, List.getElem_toArray, List.getElem_cons_succ, List.getElem_cons_zero, List.setIfInBounds_toArray, List.set_cons_zero, List.set_cons_succ]
  refine wpAnyH_take (i := 12) (v := ?_) rfl (by kernel_rfl) (by kernel_rfl) (by kernel_rfl) (fun _ _ _ h => h) (Or.inl ⟨by rfl, ?_⟩) (by assumption) ?_
  rotate_left
  · (intro w hSw; (try dsimp only at hSw); go_simp; (try with_reducible rfl))
  try simp only [Act.put, List.getElem_toArray, List.getElem_cons_succ, List.getElem_cons_zero, List.setIfInBounds_toArray, List.set_cons_zero, List.set_cons_succ]
  refine wpAnyH_ready (rs := [13]) (by kernel_rfl) (by simp) ?_
  refine AllReadyH.cons rfl (fun K2 hK => ?_) AllReadyH.nil
  rw [if_pos (by rfl)]
  go_simp
  refine hK.out _ _ ?_ (fun hHeld => ?_)
  · (try dsimp only)
    (first
      | go_keep
      | (go_split_ands
         (repeat' apply And.intro) <;> first | exact grown_cell hg1 hneg (by assumption) | (rw [World.cell?_setCell_far _ _ _ _ (fun e => hrx e.symm)]; assumption)))
  clear hK K2
  try simp only [Act.put, List.getElem_toArray, List.getElem_cons_succ, List.getElem_cons_zero, List.setIfInBounds_toArray, List.set_cons_zero, List.set_cons_succ]
  refine wpAnyH_done (by kernel_rfl) ?_ _
  refine NoPanic.normal ?_
  rotate_left
  rw [if_pos (by rfl)]
  go_simp
  refine hK.out _ _ ?_ (fun hHeld => ?_)
  · (try dsimp only)
    (first
      | go_keep
      | (go_split_ands
         (repeat' apply And.intro) <;> first | exact grown_cell hg1 hneg (by assumption) | (rw [World.cell?_setCell_far _ _ _ _ (fun e => hrx e.symm)]; assumption)))
  clear hK K2
  try simp only [Act.put, List.getElem_toArray, List.getElem_cons_succ, List.getElem_cons_zero, List.setIfInBounds_toArray, List.set_cons_zero, List.set_cons_succ]
  refine wpAnyH_ready (rs := [5]) (by kernel_rfl) (by simp) ?_
  refine AllReadyH.cons rfl (fun K2 hK => ?_) AllReadyH.nil
  rw [if_pos (by rfl)]
  go_simp
  refine hK.out _ _ ?_ (fun hHeld => ?_)
  · (try dsimp only)
    (first
      | go_keep
      | (go_split_ands
         (repeat' apply And.intro) <;> first | exact grown_cell hg1 hneg (by assumption) | (rw [World.cell?_setCell_far _ _ _ _ (fun e => hrx e.symm)]; assumption)))
  clear hK K2
  try simp only [Act.put, List.getElem_toArray, List.getElem_cons_succ, List.getElem_cons_zero, List.setIfInBounds_toArray, List.set_cons_zero, List.set_cons_succ]
  refine wpAnyH_ready (rs := [9]) (by kernel_rfl) (by simp) ?_
  refine AllReadyH.cons rfl (fun K2 hK => ?_) AllReadyH.nil
  (first
    | ((refine Sv.step_append_row _ Sv.wc_len (by decide) Sv.wc_one rfl (.tmp 52) (.tmp 55) 71 rfl B 34 i5 _ 40 Tryz.underlying71 hi5 hz5 hs5 hy5 rfl sv L _ (by rfl) (N1.out.alloc _) _ [x.1] (by rfl) (.inr ⟨W.heap.size, 0, 1, rfl, by simp, Nat.le_refl 1, fun i hi j v hv => ?ro⟩) (by simp only [maxLen]; simp; omega) (by simp; omega) (by simp; omega) ?_); (case ro => (obtain rfl : i = 0 := by simp at hi; omega); rw [show 0 + 0 * 5 + j = j by omega]; exact ((BlkW.new _ _ _).cell j).trans (by rw [List.getElem?_toArray]; exact hv)); rintro v1 u1 ⟨ho1, hg1, ha1, hl1⟩; obtain ⟨ao1, cp1, ev1⟩ := Sv.own_slice ho1; subst ev1; have hb2 := below_alloc (show Below W.heap.size W W.drew from (Below.refl _ _).drew) (.cells #[.int .i64 x.1.slot, .int .i64 x.1.gen, .int .i64 x.1.tag, .int .i64 x.1.num, .bool x.1.mark] 34); have HPX := HR.out.below hb2; have RX := HPX.at_; have RU := RtAt.off RX ((Off.refl (fun j => sv.ownBlock = some j) _).grown hg1 (fun k e => .inl e)) hne; have u50 := RU.rows.1; have uf := RU.frozen 50; have hz3 := BlkW.lt RU; have hneg : sv.ownBlock ≠ some g := fun e => hkx (HR.out.ks g e); replace RU := Lib.hid RU; replace HPX := Lib.hid HPX; replace RX := Lib.hid RX; replace hb2 := Lib.hid hb2))
  refine hK.out _ _ ?_ (fun hHeld => ?_)
  · (try dsimp only)
    (first
      | go_keep
      | (go_split_ands
         (repeat' apply And.intro) <;> first | exact grown_cell hg1 hneg (by assumption) | (rw [World.cell?_setCell_far _ _ _ _ (fun e => hrx e.symm)]; assumption)))
  clear hK K2
  try simp only [Act.put, List.getElem_toArray, List.getElem_cons_succ, List.getElem_cons_zero, List.setIfInBounds_toArray, List.set_cons_zero, List.set_cons_succ]
  refine wpAnyH_take (i := 10) (v := ?_) rfl (by kernel_rfl) (by kernel_rfl) (by kernel_rfl) (fun _ _ _ h => h) (Or.inl ⟨by rfl, ?_⟩) (by assumption) ?_
  rotate_left
  · (intro w hSw; (try dsimp only at hSw); go_simp; (try with_reducible rfl))
  try simp only [Act.put, List.getElem_toArray, List.getElem_cons_succ, List.getElem_cons_zero, List.setIfInBounds_toArray, List.set_cons_zero, List.set_cons_succ]
  refine wpAnyH_take (i := 11) (v := ?_) rfl (by kernel_rfl) (by kernel_rfl) (by kernel_rfl) (fun _ _ _ h => h) (Or.inl ⟨by rfl, ?_⟩) (by assumption) ?_
  rotate_left
  · (intro w hSw; (try dsimp only at hSw); go_simp; (try with_reducible rfl))
  try simp only [Act.put, List.getElem_toArray, List.getElem_cons_succ, List.getElem_cons_zero, List.setIfInBounds_toArray, List.set_cons_zero, List.set_cons_succ]
  refine wpAnyH_take (i := 12) (v := ?_) rfl (by kernel_rfl) (by kernel_rfl) (by kernel_rfl) (fun _ _ _ h => h) (Or.inl ⟨by rfl, ?_⟩) (by assumption) ?_
  rotate_left
  · (intro w hSw; (try dsimp only at hSw); go_simp; (try with_reducible rfl))
  try simp only [Act.put, List.getElem_toArray, List.getElem_cons_succ, List.getElem_cons_zero, List.setIfInBounds_toArray, List.set_cons_zero, List.set_cons_succ]
  refine wpAnyH_ready (rs := [13]) (by kernel_rfl) (by simp) ?_
  refine AllReadyH.cons rfl (fun K2 hK => ?_) AllReadyH.nil
  rw [if_pos (by rfl)]
  go_simp
  refine hK.out _ _ ?_ (fun hHeld => ?_)
  · (try dsimp only)
    (first
      | go_keep
      | (go_split_ands
         (repeat' apply And.intro) <;> first | exact grown_cell hg1 hneg (by assumption) | (rw [World.cell?_setCell_far _ _ _ _ (fun e => hrx e.symm)]; assumption)))
  clear hK K2
  try simp only [Act.put, List.getElem_toArray, List.getElem_cons_succ, List.getElem_cons_zero, List.setIfInBounds_toArray, List.set_cons_zero, List.set_cons_succ]
  refine wpAnyH_done (by kernel_rfl) ?_ _
  refine NoPanic.normal ?_
  all_goals
    obtain ⟨K1, hp1, ho2, hk1⟩ := HPX.out.heardP hg1 x.1 (by rw [← HL.out]; exact ho1) ha1
    have HB2 := Lib.hid (below_trans HB0.out hb2.out)
    have HP1 := Lib.hid (show RiteP _ B r _ fv nv (setSaid m x.1) K1 from hp1)
    have HO2 := Lib.hid ho2
    have HK1 := Lib.hid hk1
    have d3 := off_cell HO2.out (by have := hb2.out.size; omega) hkx (keep_cell hb2.out b3)
    have hg2 : g < (u1.setCell ⟨r, 50, none⟩ (.slice ao1 (L + 1) cp1)).heap.size := Nat.lt_of_lt_of_le hzx (Nat.le_trans hb2.out.size HO2.out.size)
    clear hp1 ho2 hk1 ho1 hg1 ha1 hl1 u50 uf RU RX HPX hb2 N1 c50 hne hneg HR b0 b1 b2 b3 b4 b5
    generalize u1.setCell ⟨r, 50, none⟩ (.slice ao1 (L + 1) cp1) = W2 at HP1 HO2 d3 hg2 ⊢
    have hsl1 : (setSaid m x.1).st.said.length = L + 1 := by show (m.st.said ++ [x.1]).length = _; rw [List.length_append, HL.out]; rfl
    have hisl : (Value.slice ao1 (L + 1) cp1).isSliceOf (setSaid m x.1).st.said.length := ⟨ao1, cp1, by rw [hsl1]⟩
    have hw : (setSaid m x.1).saysWords = true := by unfold Rt.saysWords; rw [show (setSaid m x.1).eng = 2 from HEN.out]; rfl
    have hws : (setSaid m x.1).saysSpan = false := by unfold Rt.saysSpan; rw [show (setSaid m x.1).eng = 2 from HEN.out]; rfl
    have hlt : ¬ (setSaid m x.1).st.said.length < (setSaid m x.1).thr * 9 := by rw [hsl1, HL.out]; have := HSL.out; show ¬ _ < m.thr * 9; omega
    have HLI := Lib.hid (listen_none HP1.out.at_ hisl HT.out hw hws hlt)
    have HLS := Lib.hid hsl1
    have c53 := HP1.out.at_.fix.1
    rw [show (setSaid m x.1).eng = 2 from HEN.out] at c53
    have hz2 := BlkW.lt HP1.out.at_
    clear hlt hw hws hsl1 hisl
    go_wp2_with fail
    refine HLI.out.mono ?_
    rintro e w3 ⟨rfl, rfl⟩
    go_upto_region 16 with fail
    have y53 : ∀ d os, (grow (redrawn W2 d) os).cell? ⟨r, 53, none⟩ = some (.int .i64 2) := cell_regrown c53
    refine wp_region_quiet_below (by kernel_rfl) (by kernel_rfl) ?_
    repeat (go_big_quiet_step (fail))
    refine wpQuiet_nil ?_
    intro _ hw'
    obtain ⟨⟨dq, osq⟩, hw''⟩ := hw'
    subst hw''
    have hb3 : Below W2.heap.size W2 (grow (redrawn W2 dq) osq) := below_regrown W2 dq osq
    generalize grow (redrawn W2 dq) osq = W3 at hb3 ⊢
    have HP3 := Lib.hid (HP1.out.below hb3)
    have HB3 := Lib.hid hb3
    have e53 := HP3.out.at_.fix.1
    rw [show (setSaid m x.1).eng = 2 from HEN.out] at e53
    have e3 := keep_cell hb3 d3
    have hz3 := BlkW.lt HP3.out.at_
    have hg3 := Nat.lt_of_lt_of_le hg2 hb3.size
    have HLO := Lib.hid (loose_haz HP3.out HEN.out HLN.out (by rw [HLS.out]; have := HSL.out; have := HT.out; have := HL.out; omega) x.1.num)
    clear y53 c53 d3 hb3 hg2 hz2
    go_wp2_with fail
    refine HLO.out.mono ?_
    rintro e w4 ⟨a, rfl, ra, hb4⟩
    obtain ⟨ao4, cp4, ev4⟩ := Sv.own_slice ra.out
    subst ev4
    have RW4 := RtAt.below HP3.out.at_ hb4.out
    have n51 := RW4.rows.2.1
    have f51 := RW4.frozen 51
    have hz4 := BlkW.lt RW4
    replace RW4 := Lib.hid RW4
    obtain ⟨K5, hp5, ho5, hk5⟩ := HP3.out.loosed hb4.out (show w4.ownsRow W3.heap.size 74 7 _ ((setSaid m x.1).loose x.1.num).length (Sv.flat Sv.nc ((setSaid m x.1).loose x.1.num)) from ra.out)
    have HP5 := Lib.hid hp5
    have HO5 := Lib.hid ho5
    have HK5 := Lib.hid hk5
    clear hp5 ho5 hk5
    have HREL := Lib.hid (release_any HP5.out (by show m.notes.length ≤ 1000; have := HLN.out; omega) HF.out)
    go_wp2_with fail
    refine HREL.out.mono ?_
    rintro e w6 ⟨rfl, h6⟩
    go_wp2
    first
      | go_end0
      | refine bodyPost_ret (results_none rfl _ _ _) rfl ?_
    exact ⟨rfl, Lib.hid (RStep.below HB2.out (RStep.trans HO2.out HK1.out (RStep.below HB3.out (RStep.trans HO5.out HK5.out h6.out))))⟩
end
end Go.Proofs.YtihjklimcchkhaaGreatDoor
