/- rite: retire by announcements of slots. A template (made by gen_XRn.py). -/
import Derived.Test.YtjilhncnbkaebaaGreatDoorRm
namespace Go.Proofs.YtjilhncnbkaebaaGreatDoor
open Go.RowKit Go.Extern.Stop Go.Stop Go.Extern Go.Sort
section
variable {w w' : World} {B r : Nat} {sv fv nv : Value} {m : Rt} {K : Nat → Prop}
/-- The rite as it is behind its note. -/
def notedH (m : Rt) (d : Wd) : Rt := ((m.see d).setClock d).note
def scanning (m : Rt) : Rt := { m with st := m.st.begin_ { zc with kind := 11 } }
set_option maxRecDepth 100000 in
set_option maxHeartbeats 1000000 in
theorem retire_few (h : RiteP w B r sv fv nv m K) (x : Wd × Bool) (hd : m.st.done = 0) (he : m.eng = 2) (hq : m.notes.length + 1 < m.most) (hl : m.notes.length ≤ 900) :
    Calls Tryz.prog 81 #[.pointer (some ⟨r, 0, none⟩), rpv x] w (RPost w B r K (notedH m x.1).ok) := by
  have HRL := Lib.hid (fun b (e : K b) => (show b ≠ w.heap.size from Nat.ne_of_lt (h.low b e).2))
  replace HRL : Hid (∀ b, K b → b ≠ w.heap.size) := HRL
  have h1 := h.below (below_alloc (Below.refl _ _) (.cells #[.int .i64 x.1.slot, .int .i64 x.1.gen, .int .i64 x.1.tag, .int .i64 x.1.num, .bool x.1.mark, .bool x.2] 63))
  have HX := Lib.hid (box_rep w x)
  have HB0 := Lib.hid (below_alloc (Below.refl w.heap.size w) (.cells #[.int .i64 x.1.slot, .int .i64 x.1.gen, .int .i64 x.1.tag, .int .i64 x.1.num, .bool x.1.mark, .bool x.2] 63))
  have HR := Lib.hid h1
  clear h h1
  unfold rpv
  go_enter Tryz.func81, Tryz.ntmps81
  go_upto_region 1 with fail
  generalize w.alloc (.cells #[.int .i64 x.1.slot, .int .i64 x.1.gen, .int .i64 x.1.tag, .int .i64 x.1.num, .bool x.1.mark, .bool x.2] 63) = W at HR HX HB0 ⊢
  have hX := HX.out
  have hzx := BlkW.lt hX
  have hrx : w.heap.size ≠ r := fun e => BlkW.ne_ hX HR.out.at_ (by decide) e
  have hkx : ¬ K w.heap.size := fun e => HRL.out _ e rfl
  obtain ⟨b0, b1, b2, b3, b4, b5⟩ := rep6 hX
  have hz := BlkW.lt HR.out.at_
  have cd := HR.out.at_.done
  have ce := HR.out.at_.fix.1
  clear hX HX
  generalize w.heap.size = g at hzx hrx hkx b0 b1 b2 b3 b4 b5 ⊢
  rw [hd] at cd
  rw [he] at ce
  have hcE : m.countsEras = false := by unfold Rt.countsEras; rw [he]; rfl
  have HCE := Lib.hid hcE
  have HEN := Lib.hid he
  have HQ := Lib.hid hq
  have HLN := Lib.hid hl
  obtain ⟨s0, s1, s2, s3, s4⟩ := HR.out.at_.seen5
  have fz : ∀ o, W.frozen? ⟨r, o, none⟩ = false := HR.out.at_.frozen
  clear hd he hq hl hcE
  go_wp2_with fail
  refine (countsEras_any HR.out.at_).mono ?_
  rintro e w1 ⟨rfl, rfl⟩
  rw [HCE.out]
  go_upto_region 11 with fail
  have RS := Lib.hid (HR.out.only (sv' := sv) (fv' := fv) (m' := m.see x.1) (HR.out.at_.see x.1) (Only.sets (r := r) 40 (wc x.1)) (.inl ⟨rfl, rfl⟩) (.inl ⟨rfl, rfl⟩) rfl)
  have OS := Lib.hid (Only.sets (r := r) (w := W) 40 (wc x.1))
  have d0 := OS.out.cell hzx hrx b0
  have d1 := OS.out.cell hzx hrx b1
  have d2 := OS.out.cell hzx hrx b2
  have d3 := OS.out.cell hzx hrx b3
  have d4 := OS.out.cell hzx hrx b4
  have hg2 := OS.out.lt hzx
  show Code.wp _ _ _ _ (W.setCells r 40 (wc x.1))
  clear s0 s1 s2 s3 s4 fz b0 b1 b2 b3 b4 b5 cd ce HR hz hzx
  generalize W.setCells r 40 (wc x.1) = W2 at RS OS d0 d1 d2 d3 d4 hg2 ⊢
  have c53 := RS.out.at_.fix.1
  rw [show (m.see x.1).eng = 2 from HEN.out] at c53
  have hz2 := BlkW.lt RS.out.at_
  obtain ⟨s0, s1, s2, s3, s4⟩ := RS.out.at_.clock5
  have fz : ∀ o, W2.frozen? ⟨r, o, none⟩ = false := RS.out.at_.frozen
  go_upto_region 14 with fail
  have RT := Lib.hid (RS.out.only (sv' := sv) (fv' := fv) (m' := (m.see x.1).setClock x.1) (RS.out.at_.setClock x.1) (Only.sets (r := r) 45 (wc x.1)) (.inl ⟨rfl, rfl⟩) (.inl ⟨rfl, rfl⟩) rfl)
  have OT := Lib.hid (OS.out.trans (Only.sets (r := r) (w := W2) 45 (wc x.1)))
  show Code.wp _ _ _ _ (W2.setCells r 45 (wc x.1))
  clear s0 s1 s2 s3 s4 fz d0 d1 d2 d3 d4 c53 RS OS hz2 hg2
  generalize W2.setCells r 45 (wc x.1) = W3 at RT OT ⊢
  have HNT := Lib.hid (note_any RT.out (by show m.notes.length ≤ 1000; have := HLN.out; omega))
  go_wp2_with fail
  refine HNT.out.mono ?_
  rintro e w4 ⟨rfl, h4⟩
  obtain ⟨K4, ⟨sv4, fv4, nv4, hp4⟩, ho4, hk4⟩ := h4.out
  have HP4 := Lib.hid (show RiteP w4 B r sv4 fv4 nv4 (notedH m x.1) K4 from hp4)
  have HO4 := Lib.hid ho4
  have HK4 := Lib.hid hk4
  obtain ⟨ao4, cp4, en4⟩ := Sv.own_slice HP4.out.notes
  have hnl : (notedH m x.1).notes.length = m.notes.length + 1 := by show (m.notes ++ [_]).length = _; simp
  rw [hnl] at en4
  have c105 := HP4.out.at_.n105
  rw [en4] at c105
  have c56 := HP4.out.at_.fix.2.2.2
  have hz4 := BlkW.lt HP4.out.at_
  clear hp4 ho4 hk4 en4 hnl h4
  go_wp2_with fail
  refine (countsEras_any HP4.out.at_).mono ?_
  rintro e w5 ⟨rfl, rfl⟩
  rw [show (notedH m x.1).countsEras = m.countsEras from rfl, HCE.out]
  obtain ⟨L, hL⟩ : ∃ L : Nat, L = m.notes.length + 1 := ⟨_, rfl⟩
  rw [← hL] at c105
  obtain ⟨M, hM⟩ : ∃ M : Nat, M = m.most := ⟨_, rfl⟩
  have e56 : w4.cell? ⟨r, 56, none⟩ = some (.int .i64 (M : Int)) := by rw [hM]; exact c56
  have j1 : (L : Int) < (M : Int) := by have := HQ.out; omega
  have HMM := Lib.hid hM
  clear c56 hM
  have HLL := Lib.hid hL
  clear hL
  go_upto_region 17 with fail
  go_region_held3 (fun w' => w'.cell? ⟨r, 105, none⟩ = some (.slice ao4 L cp4) ∧ w'.cell? ⟨r, 56, none⟩ = some (.int .i64 (M : Int)))
    (first | go_keep)
    (first | fail)
  have HP5 := Lib.hid (HP4.out.below ((Below.refl w4.heap.size w4).drew))
  go_wp2_with fail
  refine (succeed_any HP5.out.at_).mono ?_
  rintro e w6 ⟨rfl, h1, h2⟩
  go_wp2
  first
    | go_end0
    | refine bodyPost_ret (results_none rfl _ _ _) rfl ?_
  refine ⟨rfl, Lib.hid (RStep.below HB0.out (RStep.trans (K' := K) ⟨OT.out.os, OT.out.tape, OT.out.output, OT.out.size, fun j hj hn => OT.out.block j hj (fun e => hn (by subst e; exact RT.out.kr))⟩ (fun _ e => .inl e) (RStep.trans HO4.out HK4.out (RStep.below ((Below.refl w4.heap.size w4).drew) ?_))))⟩
  exact HP5.out.step_only h1.out h2.out (.inr ⟨rfl, rfl⟩) (.inr ⟨rfl, rfl⟩) rfl
set_option maxRecDepth 100000 in
set_option maxHeartbeats 1000000 in
theorem retire_many (h : RiteP w B r sv fv nv m K) (x : Wd × Bool) (hd : m.st.done = 0) (he : m.eng = 2) (hq : ¬ m.notes.length + 1 < m.most) (hl : m.notes.length ≤ 900) (ht : 1 ≤ m.thr ∧ m.thr ≤ 6) :
    Calls Tryz.prog 81 #[.pointer (some ⟨r, 0, none⟩), rpv x] w (RPost w B r K (((scanning (notedH m x.1)).setClock zw).hear)) := by
  have HRL := Lib.hid (fun b (e : K b) => (show b ≠ w.heap.size from Nat.ne_of_lt (h.low b e).2))
  replace HRL : Hid (∀ b, K b → b ≠ w.heap.size) := HRL
  have h1 := h.below (below_alloc (Below.refl _ _) (.cells #[.int .i64 x.1.slot, .int .i64 x.1.gen, .int .i64 x.1.tag, .int .i64 x.1.num, .bool x.1.mark, .bool x.2] 63))
  have HX := Lib.hid (box_rep w x)
  have HB0 := Lib.hid (below_alloc (Below.refl w.heap.size w) (.cells #[.int .i64 x.1.slot, .int .i64 x.1.gen, .int .i64 x.1.tag, .int .i64 x.1.num, .bool x.1.mark, .bool x.2] 63))
  have HR := Lib.hid h1
  clear h h1
  unfold rpv
  go_enter Tryz.func81, Tryz.ntmps81
  go_upto_region 1 with fail
  generalize w.alloc (.cells #[.int .i64 x.1.slot, .int .i64 x.1.gen, .int .i64 x.1.tag, .int .i64 x.1.num, .bool x.1.mark, .bool x.2] 63) = W at HR HX HB0 ⊢
  have hX := HX.out
  have hzx := BlkW.lt hX
  have hrx : w.heap.size ≠ r := fun e => BlkW.ne_ hX HR.out.at_ (by decide) e
  have hkx : ¬ K w.heap.size := fun e => HRL.out _ e rfl
  obtain ⟨b0, b1, b2, b3, b4, b5⟩ := rep6 hX
  have hz := BlkW.lt HR.out.at_
  have cd := HR.out.at_.done
  have ce := HR.out.at_.fix.1
  clear hX HX
  generalize w.heap.size = g at hzx hrx hkx b0 b1 b2 b3 b4 b5 ⊢
  have HT := Lib.hid ht
  clear ht
  rw [hd] at cd
  rw [he] at ce
  have hcE : m.countsEras = false := by unfold Rt.countsEras; rw [he]; rfl
  have HCE := Lib.hid hcE
  have HEN := Lib.hid he
  have HQ := Lib.hid hq
  have HLN := Lib.hid hl
  obtain ⟨s0, s1, s2, s3, s4⟩ := HR.out.at_.seen5
  have fz : ∀ o, W.frozen? ⟨r, o, none⟩ = false := HR.out.at_.frozen
  clear hd he hq hl hcE
  go_wp2_with fail
  refine (countsEras_any HR.out.at_).mono ?_
  rintro e w1 ⟨rfl, rfl⟩
  rw [HCE.out]
  go_upto_region 11 with fail
  have RS := Lib.hid (HR.out.only (sv' := sv) (fv' := fv) (m' := m.see x.1) (HR.out.at_.see x.1) (Only.sets (r := r) 40 (wc x.1)) (.inl ⟨rfl, rfl⟩) (.inl ⟨rfl, rfl⟩) rfl)
  have OS := Lib.hid (Only.sets (r := r) (w := W) 40 (wc x.1))
  have d0 := OS.out.cell hzx hrx b0
  have d1 := OS.out.cell hzx hrx b1
  have d2 := OS.out.cell hzx hrx b2
  have d3 := OS.out.cell hzx hrx b3
  have d4 := OS.out.cell hzx hrx b4
  have hg2 := OS.out.lt hzx
  show Code.wp _ _ _ _ (W.setCells r 40 (wc x.1))
  clear s0 s1 s2 s3 s4 fz b0 b1 b2 b3 b4 b5 cd ce HR hz hzx
  generalize W.setCells r 40 (wc x.1) = W2 at RS OS d0 d1 d2 d3 d4 hg2 ⊢
  have c53 := RS.out.at_.fix.1
  rw [show (m.see x.1).eng = 2 from HEN.out] at c53
  have hz2 := BlkW.lt RS.out.at_
  obtain ⟨s0, s1, s2, s3, s4⟩ := RS.out.at_.clock5
  have fz : ∀ o, W2.frozen? ⟨r, o, none⟩ = false := RS.out.at_.frozen
  go_upto_region 14 with fail
  have RT := Lib.hid (RS.out.only (sv' := sv) (fv' := fv) (m' := (m.see x.1).setClock x.1) (RS.out.at_.setClock x.1) (Only.sets (r := r) 45 (wc x.1)) (.inl ⟨rfl, rfl⟩) (.inl ⟨rfl, rfl⟩) rfl)
  have OT := Lib.hid (OS.out.trans (Only.sets (r := r) (w := W2) 45 (wc x.1)))
  show Code.wp _ _ _ _ (W2.setCells r 45 (wc x.1))
  clear s0 s1 s2 s3 s4 fz d0 d1 d2 d3 d4 c53 RS OS hz2 hg2
  generalize W2.setCells r 45 (wc x.1) = W3 at RT OT ⊢
  have HNT := Lib.hid (note_any RT.out (by show m.notes.length ≤ 1000; have := HLN.out; omega))
  go_wp2_with fail
  refine HNT.out.mono ?_
  rintro e w4 ⟨rfl, h4⟩
  obtain ⟨K4, ⟨sv4, fv4, nv4, hp4⟩, ho4, hk4⟩ := h4.out
  have HP4 := Lib.hid (show RiteP w4 B r sv4 fv4 nv4 (notedH m x.1) K4 from hp4)
  have HO4 := Lib.hid ho4
  have HK4 := Lib.hid hk4
  obtain ⟨ao4, cp4, en4⟩ := Sv.own_slice HP4.out.notes
  have hnl : (notedH m x.1).notes.length = m.notes.length + 1 := by show (m.notes ++ [_]).length = _; simp
  rw [hnl] at en4
  have c105 := HP4.out.at_.n105
  rw [en4] at c105
  have c56 := HP4.out.at_.fix.2.2.2
  have hz4 := BlkW.lt HP4.out.at_
  clear hp4 ho4 hk4 en4 hnl h4
  go_wp2_with fail
  refine (countsEras_any HP4.out.at_).mono ?_
  rintro e w5 ⟨rfl, rfl⟩
  rw [show (notedH m x.1).countsEras = m.countsEras from rfl, HCE.out]
  obtain ⟨L, hL⟩ : ∃ L : Nat, L = m.notes.length + 1 := ⟨_, rfl⟩
  rw [← hL] at c105
  obtain ⟨M, hM⟩ : ∃ M : Nat, M = m.most := ⟨_, rfl⟩
  have e56 : w4.cell? ⟨r, 56, none⟩ = some (.int .i64 (M : Int)) := by rw [hM]; exact c56
  have j1 : (M : Int) ≤ (L : Int) := by have := HQ.out; omega
  have HMM := Lib.hid hM
  clear c56 hM
  have HLL := Lib.hid hL
  clear hL
  go_upto_region 17 with fail
  go_region_held3 (fun w' => w'.cell? ⟨r, 105, none⟩ = some (.slice ao4 L cp4) ∧ w'.cell? ⟨r, 56, none⟩ = some (.int .i64 (M : Int)))
    (first | go_keep)
    (first | fail)
  have HP5 := Lib.hid (HP4.out.below ((Below.refl w4.heap.size w4).drew))
  have j2 : ¬ (L : Int) < (M : Int) := by omega
  have HBG := Lib.hid (begin_any HP5.out.at_ { zc with kind := 11 })
  go_wp2_with fail
  refine HBG.out.mono ?_
  rintro e w6 ⟨rfl, h1, h2⟩
  have HP6 := Lib.hid (HP5.out.only (m' := scanning (notedH m x.1)) h1.out h2.out (.inr ⟨rfl, rfl⟩) (.inr ⟨rfl, rfl⟩) rfl)
  have HO6 := Lib.hid h2.out
  have HSC := Lib.hid (scan_first HP6.out (zw, false) rfl HEN.out rfl HT.out)
  go_wp2_with fail
  refine HSC.out.mono ?_
  rintro e w7 ⟨rfl, h7⟩
  go_wp2
  first
    | go_end0
    | refine bodyPost_ret (results_none rfl _ _ _) rfl ?_
  refine ⟨rfl, Lib.hid (RStep.below HB0.out (RStep.trans (K' := K) ⟨OT.out.os, OT.out.tape, OT.out.output, OT.out.size, fun j hj hn => OT.out.block j hj (fun e => hn (by subst e; exact RT.out.kr))⟩ (fun _ e => .inl e) (RStep.trans HO4.out HK4.out (RStep.below ((Below.refl w4.heap.size w4).drew) (RStep.trans (K' := K4) ⟨HO6.out.os, HO6.out.tape, HO6.out.output, HO6.out.size, fun j hj hn => HO6.out.block j hj (fun e => hn (by subst e; exact HP5.out.kr))⟩ (fun _ e => .inl e) h7.out)))))⟩
end
end Go.Proofs.YtjilhncnbkaebaaGreatDoor
