/- rite: retire by announcements of slots. A template (made by gen_XRn.py). -/
/- rite: goOn; the exported calls. A template (made by gen_XRo.py). -/
/- rite: Begin, Took, Next, Reply, Busy. A template (made by gen_XRp.py). -/
import Derived.Test.YtihjklimcchkhaaGreatDoorRLM
namespace Go.Proofs.YtihjklimcchkhaaGreatDoor
open Go.RowKit Go.Extern.Stop Go.Stop Go.Extern Go.Sort
section
variable {w w' : World} {B r : Nat} {sv fv nv : Value} {m : Rt} {K : Nat → Prop}
/-- The rite as it is behind its note. -/
def notedH (m : Rt) (d : Wd) : Rt := ((m.see d).setClock d).note
def scanning (m : Rt) : Rt := { m with st := m.st.begin_ { zc with kind := 11 } }
set_option maxRecDepth 100000 in
set_option maxHeartbeats 1000000 in
theorem retire_few (h : RiteP w B r sv fv nv m K) (x : Wd × Bool) (hd : m.st.done = 0) (he : m.eng = 2) (hq : m.notes.length + 1 < m.most) (hl : m.notes.length ≤ 900) :
    Calls Tryz.prog 93 #[.pointer (some ⟨r, 0, none⟩), rpv x] w (RPost w B r K (notedH m x.1).ok) := by
  have HRL := Lib.hid (fun b (e : K b) => (show b ≠ w.heap.size from Nat.ne_of_lt (h.low b e).2))
  replace HRL : Hid (∀ b, K b → b ≠ w.heap.size) := HRL
  have h1 := h.below (below_alloc (Below.refl _ _) (.cells #[.int .i64 x.1.slot, .int .i64 x.1.gen, .int .i64 x.1.tag, .int .i64 x.1.num, .bool x.1.mark, .bool x.2] 63))
  have HX := Lib.hid (box_rep w x)
  have HB0 := Lib.hid (below_alloc (Below.refl w.heap.size w) (.cells #[.int .i64 x.1.slot, .int .i64 x.1.gen, .int .i64 x.1.tag, .int .i64 x.1.num, .bool x.1.mark, .bool x.2] 63))
  have HR := Lib.hid h1
  clear h h1
  unfold rpv
  go_enter Tryz.func93, Tryz.ntmps93
  go_upto_region 1 with fail
  generalize w.alloc (.cells #[.int .i64 x.1.slot, .int .i64 x.1.gen, .int .i64 x.1.tag, .int .i64 x.1.num, .bool x.1.mark, .bool x.2] 63) = W at HR HX HB0 ⊢
  have hX := HX.out
  have hzx := BlkW.lt hX
  have hrx : w.heap.size ≠ r := fun e => BlkW.ne_ hX HR.out.at_ (by decide) e
  have hkx : ¬ K w.heap.size := fun e => HRL.out _ e rfl
  obtain ⟨b0, b1, b2, b3, b4, b5⟩ := rep6 hX
  have hz := BlkW.lt HR.out.at_
  have cd := HR.out.at_.done
  have ce := HR.out.at_.fix.1
  clear hX HX
  generalize w.heap.size = g at hzx hrx hkx b0 b1 b2 b3 b4 b5 ⊢
  rw [hd] at cd
  rw [he] at ce
  have hcE : m.countsEras = false := by unfold Rt.countsEras; rw [he]; rfl
  have HCE := Lib.hid hcE
  have HEN := Lib.hid he
  have HQ := Lib.hid hq
  have HLN := Lib.hid hl
  obtain ⟨s0, s1, s2, s3, s4⟩ := HR.out.at_.seen5
  have fz : ∀ o, W.frozen? ⟨r, o, none⟩ = false := HR.out.at_.frozen
  clear hd he hq hl hcE
  go_wp2_with fail
  refine (countsEras_any HR.out.at_).mono ?_
  rintro e w1 ⟨rfl, rfl⟩
  rw [HCE.out]
  go_upto_region 11 with fail
  have RS := Lib.hid (HR.out.only (sv' := sv) (fv' := fv) (m' := m.see x.1) (HR.out.at_.see x.1) (Only.sets (r := r) 40 (wc x.1)) (.inl ⟨rfl, rfl⟩) (.inl ⟨rfl, rfl⟩) rfl)
  have OS := Lib.hid (Only.sets (r := r) (w := W) 40 (wc x.1))
  have d0 := OS.out.cell hzx hrx b0
  have d1 := OS.out.cell hzx hrx b1
  have d2 := OS.out.cell hzx hrx b2
  have d3 := OS.out.cell hzx hrx b3
  have d4 := OS.out.cell hzx hrx b4
  have hg2 := OS.out.lt hzx
  show Code.wp _ _ _ _ (W.setCells r 40 (wc x.1))
  clear s0 s1 s2 s3 s4 fz b0 b1 b2 b3 b4 b5 cd ce HR hz hzx
  generalize W.setCells r 40 (wc x.1) = W2 at RS OS d0 d1 d2 d3 d4 hg2 ⊢
  have c53 := RS.out.at_.fix.1
  rw [show (m.see x.1).eng = 2 from HEN.out] at c53
  have hz2 := BlkW.lt RS.out.at_
  obtain ⟨s0, s1, s2, s3, s4⟩ := RS.out.at_.clock5
  have fz : ∀ o, W2.frozen? ⟨r, o, none⟩ = false := RS.out.at_.frozen
  go_upto_region 14 with fail
  have RT := Lib.hid (RS.out.only (sv' := sv) (fv' := fv) (m' := (m.see x.1).setClock x.1) (RS.out.at_.setClock x.1) (Only.sets (r := r) 45 (wc x.1)) (.inl ⟨rfl, rfl⟩) (.inl ⟨rfl, rfl⟩) rfl)
  have OT := Lib.hid (OS.out.trans (Only.sets (r := r) (w := W2) 45 (wc x.1)))
  show Code.wp _ _ _ _ (W2.setCells r 45 (wc x.1))
  clear s0 s1 s2 s3 s4 fz d0 d1 d2 d3 d4 c53 RS OS hz2 hg2
  generalize W2.setCells r 45 (wc x.1) = W3 at RT OT ⊢
  have HNT := Lib.hid (note_any RT.out (by show m.notes.length ≤ 1000; have := HLN.out; omega))
  go_wp2_with fail
  refine HNT.out.mono ?_
  rintro e w4 ⟨rfl, h4⟩
  obtain ⟨K4, ⟨sv4, fv4, nv4, hp4⟩, ho4, hk4⟩ := h4.out
  have HP4 := Lib.hid (show RiteP w4 B r sv4 fv4 nv4 (notedH m x.1) K4 from hp4)
  have HO4 := Lib.hid ho4
  have HK4 := Lib.hid hk4
  obtain ⟨ao4, cp4, en4⟩ := Sv.own_slice HP4.out.notes
  have hnl : (notedH m x.1).notes.length = m.notes.length + 1 := by show (m.notes ++ [_]).length = _; simp
  rw [hnl] at en4
  have c105 := HP4.out.at_.n105
  rw [en4] at c105
  have c56 := HP4.out.at_.fix.2.2.2
  have hz4 := BlkW.lt HP4.out.at_
  clear hp4 ho4 hk4 en4 hnl h4
  go_wp2_with fail
  refine (countsEras_any HP4.out.at_).mono ?_
  rintro e w5 ⟨rfl, rfl⟩
  rw [show (notedH m x.1).countsEras = m.countsEras from rfl, HCE.out]
  obtain ⟨L, hL⟩ : ∃ L : Nat, L = m.notes.length + 1 := ⟨_, rfl⟩
  rw [← hL] at c105
  obtain ⟨M, hM⟩ : ∃ M : Nat, M = m.most := ⟨_, rfl⟩
  have e56 : w4.cell? ⟨r, 56, none⟩ = some (.int .i64 (M : Int)) := by rw [hM]; exact c56
  have j1 : (L : Int) < (M : Int) := by have := HQ.out; omega
  have HMM := Lib.hid hM
  clear c56 hM
  have HLL := Lib.hid hL
  clear hL
  go_upto_region 17 with fail
  go_region_held3 (fun w' => w'.cell? ⟨r, 105, none⟩ = some (.slice ao4 L cp4) ∧ w'.cell? ⟨r, 56, none⟩ = some (.int .i64 (M : Int)))
    (first | go_keep)
    (first | fail)
  have HP5 := Lib.hid (HP4.out.below ((Below.refl w4.heap.size w4).drew))
  go_wp2_with fail
  refine (succeed_any HP5.out.at_).mono ?_
  rintro e w6 ⟨rfl, h1, h2⟩
  go_wp2
  first
    | go_end0
    | refine bodyPost_ret (results_none rfl _ _ _) rfl ?_
  refine ⟨rfl, Lib.hid (RStep.below HB0.out (RStep.trans (K' := K) ⟨OT.out.os, OT.out.tape, OT.out.output, OT.out.size, fun j hj hn => OT.out.block j hj (fun e => hn (by subst e; exact RT.out.kr))⟩ (fun _ e => .inl e) (RStep.trans HO4.out HK4.out (RStep.below ((Below.refl w4.heap.size w4).drew) ?_))))⟩
  exact HP5.out.step_only h1.out h2.out (.inr ⟨rfl, rfl⟩) (.inr ⟨rfl, rfl⟩) rfl
set_option maxRecDepth 100000 in
set_option maxHeartbeats 1000000 in
theorem retire_many (h : RiteP w B r sv fv nv m K) (x : Wd × Bool) (hd : m.st.done = 0) (he : m.eng = 2) (hq : ¬ m.notes.length + 1 < m.most) (hl : m.notes.length ≤ 900) (ht : 1 ≤ m.thr ∧ m.thr ≤ 6) :
    Calls Tryz.prog 93 #[.pointer (some ⟨r, 0, none⟩), rpv x] w (RPost w B r K (((scanning (notedH m x.1)).setClock zw).hear)) := by
  have HRL := Lib.hid (fun b (e : K b) => (show b ≠ w.heap.size from Nat.ne_of_lt (h.low b e).2))
  replace HRL : Hid (∀ b, K b → b ≠ w.heap.size) := HRL
  have h1 := h.below (below_alloc (Below.refl _ _) (.cells #[.int .i64 x.1.slot, .int .i64 x.1.gen, .int .i64 x.1.tag, .int .i64 x.1.num, .bool x.1.mark, .bool x.2] 63))
  have HX := Lib.hid (box_rep w x)
  have HB0 := Lib.hid (below_alloc (Below.refl w.heap.size w) (.cells #[.int .i64 x.1.slot, .int .i64 x.1.gen, .int .i64 x.1.tag, .int .i64 x.1.num, .bool x.1.mark, .bool x.2] 63))
  have HR := Lib.hid h1
  clear h h1
  unfold rpv
  go_enter Tryz.func93, Tryz.ntmps93
  go_upto_region 1 with fail
  generalize w.alloc (.cells #[.int .i64 x.1.slot, .int .i64 x.1.gen, .int .i64 x.1.tag, .int .i64 x.1.num, .bool x.1.mark, .bool x.2] 63) = W at HR HX HB0 ⊢
  have hX := HX.out
  have hzx := BlkW.lt hX
  have hrx : w.heap.size ≠ r := fun e => BlkW.ne_ hX HR.out.at_ (by decide) e
  have hkx : ¬ K w.heap.size := fun e => HRL.out _ e rfl
  obtain ⟨b0, b1, b2, b3, b4, b5⟩ := rep6 hX
  have hz := BlkW.lt HR.out.at_
  have cd := HR.out.at_.done
  have ce := HR.out.at_.fix.1
  clear hX HX
  generalize w.heap.size = g at hzx hrx hkx b0 b1 b2 b3 b4 b5 ⊢
  have HT := Lib.hid ht
  clear ht
  rw [hd] at cd
  rw [he] at ce
  have hcE : m.countsEras = false := by unfold Rt.countsEras; rw [he]; rfl
  have HCE := Lib.hid hcE
  have HEN := Lib.hid he
  have HQ := Lib.hid hq
  have HLN := Lib.hid hl
  obtain ⟨s0, s1, s2, s3, s4⟩ := HR.out.at_.seen5
  have fz : ∀ o, W.frozen? ⟨r, o, none⟩ = false := HR.out.at_.frozen
  clear hd he hq hl hcE
  go_wp2_with fail
  refine (countsEras_any HR.out.at_).mono ?_
  rintro e w1 ⟨rfl, rfl⟩
  rw [HCE.out]
  go_upto_region 11 with fail
  have RS := Lib.hid (HR.out.only (sv' := sv) (fv' := fv) (m' := m.see x.1) (HR.out.at_.see x.1) (Only.sets (r := r) 40 (wc x.1)) (.inl ⟨rfl, rfl⟩) (.inl ⟨rfl, rfl⟩) rfl)
  have OS := Lib.hid (Only.sets (r := r) (w := W) 40 (wc x.1))
  have d0 := OS.out.cell hzx hrx b0
  have d1 := OS.out.cell hzx hrx b1
  have d2 := OS.out.cell hzx hrx b2
  have d3 := OS.out.cell hzx hrx b3
  have d4 := OS.out.cell hzx hrx b4
  have hg2 := OS.out.lt hzx
  show Code.wp _ _ _ _ (W.setCells r 40 (wc x.1))
  clear s0 s1 s2 s3 s4 fz b0 b1 b2 b3 b4 b5 cd ce HR hz hzx
  generalize W.setCells r 40 (wc x.1) = W2 at RS OS d0 d1 d2 d3 d4 hg2 ⊢
  have c53 := RS.out.at_.fix.1
  rw [show (m.see x.1).eng = 2 from HEN.out] at c53
  have hz2 := BlkW.lt RS.out.at_
  obtain ⟨s0, s1, s2, s3, s4⟩ := RS.out.at_.clock5
  have fz : ∀ o, W2.frozen? ⟨r, o, none⟩ = false := RS.out.at_.frozen
  go_upto_region 14 with fail
  have RT := Lib.hid (RS.out.only (sv' := sv) (fv' := fv) (m' := (m.see x.1).setClock x.1) (RS.out.at_.setClock x.1) (Only.sets (r := r) 45 (wc x.1)) (.inl ⟨rfl, rfl⟩) (.inl ⟨rfl, rfl⟩) rfl)
  have OT := Lib.hid (OS.out.trans (Only.sets (r := r) (w := W2) 45 (wc x.1)))
  show Code.wp _ _ _ _ (W2.setCells r 45 (wc x.1))
  clear s0 s1 s2 s3 s4 fz d0 d1 d2 d3 d4 c53 RS OS hz2 hg2
  generalize W2.setCells r 45 (wc x.1) = W3 at RT OT ⊢
  have HNT := Lib.hid (note_any RT.out (by show m.notes.length ≤ 1000; have := HLN.out; omega))
  go_wp2_with fail
  refine HNT.out.mono ?_
  rintro e w4 ⟨rfl, h4⟩
  obtain ⟨K4, ⟨sv4, fv4, nv4, hp4⟩, ho4, hk4⟩ := h4.out
  have HP4 := Lib.hid (show RiteP w4 B r sv4 fv4 nv4 (notedH m x.1) K4 from hp4)
  have HO4 := Lib.hid ho4
  have HK4 := Lib.hid hk4
  obtain ⟨ao4, cp4, en4⟩ := Sv.own_slice HP4.out.notes
  have hnl : (notedH m x.1).notes.length = m.notes.length + 1 := by show (m.notes ++ [_]).length = _; simp
  rw [hnl] at en4
  have c105 := HP4.out.at_.n105
  rw [en4] at c105
  have c56 := HP4.out.at_.fix.2.2.2
  have hz4 := BlkW.lt HP4.out.at_
  clear hp4 ho4 hk4 en4 hnl h4
  go_wp2_with fail
  refine (countsEras_any HP4.out.at_).mono ?_
  rintro e w5 ⟨rfl, rfl⟩
  rw [show (notedH m x.1).countsEras = m.countsEras from rfl, HCE.out]
  obtain ⟨L, hL⟩ : ∃ L : Nat, L = m.notes.length + 1 := ⟨_, rfl⟩
  rw [← hL] at c105
  obtain ⟨M, hM⟩ : ∃ M : Nat, M = m.most := ⟨_, rfl⟩
  have e56 : w4.cell? ⟨r, 56, none⟩ = some (.int .i64 (M : Int)) := by rw [hM]; exact c56
  have j1 : (M : Int) ≤ (L : Int) := by have := HQ.out; omega
  have HMM := Lib.hid hM
  clear c56 hM
  have HLL := Lib.hid hL
  clear hL
  go_upto_region 17 with fail
  go_region_held3 (fun w' => w'.cell? ⟨r, 105, none⟩ = some (.slice ao4 L cp4) ∧ w'.cell? ⟨r, 56, none⟩ = some (.int .i64 (M : Int)))
    (first | go_keep)
    (first | fail)
  have HP5 := Lib.hid (HP4.out.below ((Below.refl w4.heap.size w4).drew))
  have j2 : ¬ (L : Int) < (M : Int) := by omega
  have HBG := Lib.hid (begin_any HP5.out.at_ { zc with kind := 11 })
  go_wp2_with fail
  refine HBG.out.mono ?_
  rintro e w6 ⟨rfl, h1, h2⟩
  have HP6 := Lib.hid (HP5.out.only (m' := scanning (notedH m x.1)) h1.out h2.out (.inr ⟨rfl, rfl⟩) (.inr ⟨rfl, rfl⟩) rfl)
  have HO6 := Lib.hid h2.out
  have HSC := Lib.hid (scan_first HP6.out (zw, false) rfl HEN.out rfl HT.out)
  go_wp2_with fail
  refine HSC.out.mono ?_
  rintro e w7 ⟨rfl, h7⟩
  go_wp2
  first
    | go_end0
    | refine bodyPost_ret (results_none rfl _ _ _) rfl ?_
  refine ⟨rfl, Lib.hid (RStep.below HB0.out (RStep.trans (K' := K) ⟨OT.out.os, OT.out.tape, OT.out.output, OT.out.size, fun j hj hn => OT.out.block j hj (fun e => hn (by subst e; exact RT.out.kr))⟩ (fun _ e => .inl e) (RStep.trans HO4.out HK4.out (RStep.below ((Below.refl w4.heap.size w4).drew) (RStep.trans (K' := K4) ⟨HO6.out.os, HO6.out.tape, HO6.out.output, HO6.out.size, fun j hj hn => HO6.out.block j hj (fun e => hn (by subst e; exact HP5.out.kr))⟩ (fun _ e => .inl e) h7.out)))))⟩
end
end Go.Proofs.YtihjklimcchkhaaGreatDoor

namespace Go.Proofs.YtihjklimcchkhaaGreatDoor
open Go.RowKit Go.Extern.Stop Go.Stop Go.Extern Go.Sort
section
variable {w w' : World} {B r : Nat} {sv fv nv : Value} {m m' : Rt} {K : Nat → Prop}
/-- What a call of the rite's leaves, wherever it lies. -/
def Goes (F : Nat) (args : Array Value) (B r : Nat) (sv fv nv : Value) (m m' : Rt) (K : Nat → Prop) : Prop := ∀ W, RiteP W B r sv fv nv m K → Calls Tryz.prog F (#[.pointer (some ⟨r, 0, none⟩)] ++ args) W (RPost W B r K m')
set_option maxRecDepth 100000 in
set_option maxHeartbeats 1000000 in
theorem goOn_enter (h : RiteP w B r sv fv nv m K) (x : Wd × Bool) (hk : m.st.call.kind = 1) (hC : Goes 86 #[rpv x] B r sv fv nv m m' K) :
    Calls Tryz.prog 56 #[.pointer (some ⟨r, 0, none⟩), rpv x] w (RPost w B r K m') := by
  have hb := below_alloc (Below.refl w.heap.size w) (.cells #[.int .i64 x.1.slot, .int .i64 x.1.gen, .int .i64 x.1.tag, .int .i64 x.1.num, .bool x.1.mark, .bool x.2] 63)
  have HR := Lib.hid (h.below hb)
  have HB := Lib.hid hb
  have HC := Lib.hid (hC _ HR.out)
  have HX := Lib.hid (box_rep w x)
  clear h hC hb
  unfold rpv
  all_goals
    go_enter Tryz.func56, Tryz.ntmps56
    go_upto_region 1 with fail
    generalize w.alloc (.cells #[.int .i64 x.1.slot, .int .i64 x.1.gen, .int .i64 x.1.tag, .int .i64 x.1.num, .bool x.1.mark, .bool x.2] 63) = W at HR HC HX HB ⊢
    have hX := HX.out
    have hzx := BlkW.lt hX
    have hrx : w.heap.size ≠ r := fun e => BlkW.ne_ hX HR.out.at_ (by decide) e
    obtain ⟨b0, b1, b2, b3, b4, b5⟩ := rep6 hX
    have hz := BlkW.lt HR.out.at_
    have ck := HR.out.at_.kind
    rw [hk] at ck
    clear hX HX
    go_wp2_with fail
    refine HC.out.mono ?_
    rintro e w1 ⟨rfl, h1⟩
    go_wp2
    first
      | go_end0
      | refine bodyPost_ret (results_none rfl _ _ _) rfl ?_
    exact ⟨rfl, Lib.hid (RStep.below HB.out h1.out)⟩
set_option maxRecDepth 100000 in
set_option maxHeartbeats 1000000 in
theorem goOn_leave (h : RiteP w B r sv fv nv m K) (x : Wd × Bool) (hk : m.st.call.kind = 2) (hC : Goes 87 #[] B r sv fv nv m m' K) :
    Calls Tryz.prog 56 #[.pointer (some ⟨r, 0, none⟩), rpv x] w (RPost w B r K m') := by
  have hb := below_alloc (Below.refl w.heap.size w) (.cells #[.int .i64 x.1.slot, .int .i64 x.1.gen, .int .i64 x.1.tag, .int .i64 x.1.num, .bool x.1.mark, .bool x.2] 63)
  have HR := Lib.hid (h.below hb)
  have HB := Lib.hid hb
  have HC := Lib.hid (hC _ HR.out)
  have HX := Lib.hid (box_rep w x)
  clear h hC hb
  unfold rpv
  all_goals
    go_enter Tryz.func56, Tryz.ntmps56
    go_upto_region 1 with fail
    generalize w.alloc (.cells #[.int .i64 x.1.slot, .int .i64 x.1.gen, .int .i64 x.1.tag, .int .i64 x.1.num, .bool x.1.mark, .bool x.2] 63) = W at HR HC HX HB ⊢
    have hX := HX.out
    have hzx := BlkW.lt hX
    have hrx : w.heap.size ≠ r := fun e => BlkW.ne_ hX HR.out.at_ (by decide) e
    obtain ⟨b0, b1, b2, b3, b4, b5⟩ := rep6 hX
    have hz := BlkW.lt HR.out.at_
    have ck := HR.out.at_.kind
    rw [hk] at ck
    clear hX HX
    go_wp2_with fail
    refine HC.out.mono ?_
    rintro e w1 ⟨rfl, h1⟩
    go_wp2
    first
      | go_end0
      | refine bodyPost_ret (results_none rfl _ _ _) rfl ?_
    exact ⟨rfl, Lib.hid (RStep.below HB.out h1.out)⟩
set_option maxRecDepth 100000 in
set_option maxHeartbeats 1000000 in
theorem goOn_touch (h : RiteP w B r sv fv nv m K) (x : Wd × Bool) (hk : m.st.call.kind = 3 ∨ m.st.call.kind = 4 ∨ m.st.call.kind = 5) (hC : Goes 88 #[rpv x] B r sv fv nv m m' K) :
    Calls Tryz.prog 56 #[.pointer (some ⟨r, 0, none⟩), rpv x] w (RPost w B r K m') := by
  have hb := below_alloc (Below.refl w.heap.size w) (.cells #[.int .i64 x.1.slot, .int .i64 x.1.gen, .int .i64 x.1.tag, .int .i64 x.1.num, .bool x.1.mark, .bool x.2] 63)
  have HR := Lib.hid (h.below hb)
  have HB := Lib.hid hb
  have HC := Lib.hid (hC _ HR.out)
  have HX := Lib.hid (box_rep w x)
  clear h hC hb
  unfold rpv
  rcases hk with hk | hk | hk
  all_goals
    go_enter Tryz.func56, Tryz.ntmps56
    go_upto_region 1 with fail
    generalize w.alloc (.cells #[.int .i64 x.1.slot, .int .i64 x.1.gen, .int .i64 x.1.tag, .int .i64 x.1.num, .bool x.1.mark, .bool x.2] 63) = W at HR HC HX HB ⊢
    have hX := HX.out
    have hzx := BlkW.lt hX
    have hrx : w.heap.size ≠ r := fun e => BlkW.ne_ hX HR.out.at_ (by decide) e
    obtain ⟨b0, b1, b2, b3, b4, b5⟩ := rep6 hX
    have hz := BlkW.lt HR.out.at_
    have ck := HR.out.at_.kind
    rw [hk] at ck
    clear hX HX
    go_wp2_with fail
    refine HC.out.mono ?_
    rintro e w1 ⟨rfl, h1⟩
    go_wp2
    first
      | go_end0
      | refine bodyPost_ret (results_none rfl _ _ _) rfl ?_
    exact ⟨rfl, Lib.hid (RStep.below HB.out h1.out)⟩
set_option maxRecDepth 100000 in
set_option maxHeartbeats 1000000 in
theorem goOn_protect (h : RiteP w B r sv fv nv m K) (x : Wd × Bool) (hk : m.st.call.kind = 6) (hC : Goes 89 #[rpv x] B r sv fv nv m m' K) :
    Calls Tryz.prog 56 #[.pointer (some ⟨r, 0, none⟩), rpv x] w (RPost w B r K m') := by
  have hb := below_alloc (Below.refl w.heap.size w) (.cells #[.int .i64 x.1.slot, .int .i64 x.1.gen, .int .i64 x.1.tag, .int .i64 x.1.num, .bool x.1.mark, .bool x.2] 63)
  have HR := Lib.hid (h.below hb)
  have HB := Lib.hid hb
  have HC := Lib.hid (hC _ HR.out)
  have HX := Lib.hid (box_rep w x)
  clear h hC hb
  unfold rpv
  all_goals
    go_enter Tryz.func56, Tryz.ntmps56
    go_upto_region 1 with fail
    generalize w.alloc (.cells #[.int .i64 x.1.slot, .int .i64 x.1.gen, .int .i64 x.1.tag, .int .i64 x.1.num, .bool x.1.mark, .bool x.2] 63) = W at HR HC HX HB ⊢
    have hX := HX.out
    have hzx := BlkW.lt hX
    have hrx : w.heap.size ≠ r := fun e => BlkW.ne_ hX HR.out.at_ (by decide) e
    obtain ⟨b0, b1, b2, b3, b4, b5⟩ := rep6 hX
    have hz := BlkW.lt HR.out.at_
    have ck := HR.out.at_.kind
    rw [hk] at ck
    clear hX HX
    go_wp2_with fail
    refine HC.out.mono ?_
    rintro e w1 ⟨rfl, h1⟩
    go_wp2
    first
      | go_end0
      | refine bodyPost_ret (results_none rfl _ _ _) rfl ?_
    exact ⟨rfl, Lib.hid (RStep.below HB.out h1.out)⟩
set_option maxRecDepth 100000 in
set_option maxHeartbeats 1000000 in
theorem goOn_alloc (h : RiteP w B r sv fv nv m K) (x : Wd × Bool) (hk : m.st.call.kind = 8) (hC : Goes 91 #[rpv x] B r sv fv nv m m' K) :
    Calls Tryz.prog 56 #[.pointer (some ⟨r, 0, none⟩), rpv x] w (RPost w B r K m') := by
  have hb := below_alloc (Below.refl w.heap.size w) (.cells #[.int .i64 x.1.slot, .int .i64 x.1.gen, .int .i64 x.1.tag, .int .i64 x.1.num, .bool x.1.mark, .bool x.2] 63)
  have HR := Lib.hid (h.below hb)
  have HB := Lib.hid hb
  have HC := Lib.hid (hC _ HR.out)
  have HX := Lib.hid (box_rep w x)
  clear h hC hb
  unfold rpv
  all_goals
    go_enter Tryz.func56, Tryz.ntmps56
    go_upto_region 1 with fail
    generalize w.alloc (.cells #[.int .i64 x.1.slot, .int .i64 x.1.gen, .int .i64 x.1.tag, .int .i64 x.1.num, .bool x.1.mark, .bool x.2] 63) = W at HR HC HX HB ⊢
    have hX := HX.out
    have hzx := BlkW.lt hX
    have hrx : w.heap.size ≠ r := fun e => BlkW.ne_ hX HR.out.at_ (by decide) e
    obtain ⟨b0, b1, b2, b3, b4, b5⟩ := rep6 hX
    have hz := BlkW.lt HR.out.at_
    have ck := HR.out.at_.kind
    rw [hk] at ck
    clear hX HX
    go_wp2_with fail
    refine HC.out.mono ?_
    rintro e w1 ⟨rfl, h1⟩
    go_wp2
    first
      | go_end0
      | refine bodyPost_ret (results_none rfl _ _ _) rfl ?_
    exact ⟨rfl, Lib.hid (RStep.below HB.out h1.out)⟩
set_option maxRecDepth 100000 in
set_option maxHeartbeats 1000000 in
theorem goOn_drop (h : RiteP w B r sv fv nv m K) (x : Wd × Bool) (hk : m.st.call.kind = 9) (hC : Goes 92 #[] B r sv fv nv m m' K) :
    Calls Tryz.prog 56 #[.pointer (some ⟨r, 0, none⟩), rpv x] w (RPost w B r K m') := by
  have hb := below_alloc (Below.refl w.heap.size w) (.cells #[.int .i64 x.1.slot, .int .i64 x.1.gen, .int .i64 x.1.tag, .int .i64 x.1.num, .bool x.1.mark, .bool x.2] 63)
  have HR := Lib.hid (h.below hb)
  have HB := Lib.hid hb
  have HC := Lib.hid (hC _ HR.out)
  have HX := Lib.hid (box_rep w x)
  clear h hC hb
  unfold rpv
  all_goals
    go_enter Tryz.func56, Tryz.ntmps56
    go_upto_region 1 with fail
    generalize w.alloc (.cells #[.int .i64 x.1.slot, .int .i64 x.1.gen, .int .i64 x.1.tag, .int .i64 x.1.num, .bool x.1.mark, .bool x.2] 63) = W at HR HC HX HB ⊢
    have hX := HX.out
    have hzx := BlkW.lt hX
    have hrx : w.heap.size ≠ r := fun e => BlkW.ne_ hX HR.out.at_ (by decide) e
    obtain ⟨b0, b1, b2, b3, b4, b5⟩ := rep6 hX
    have hz := BlkW.lt HR.out.at_
    have ck := HR.out.at_.kind
    rw [hk] at ck
    clear hX HX
    go_wp2_with fail
    refine HC.out.mono ?_
    rintro e w1 ⟨rfl, h1⟩
    go_wp2
    first
      | go_end0
      | refine bodyPost_ret (results_none rfl _ _ _) rfl ?_
    exact ⟨rfl, Lib.hid (RStep.below HB.out h1.out)⟩
set_option maxRecDepth 100000 in
set_option maxHeartbeats 1000000 in
theorem goOn_retire (h : RiteP w B r sv fv nv m K) (x : Wd × Bool) (hk : m.st.call.kind = 10) (hC : Goes 93 #[rpv x] B r sv fv nv m m' K) :
    Calls Tryz.prog 56 #[.pointer (some ⟨r, 0, none⟩), rpv x] w (RPost w B r K m') := by
  have hb := below_alloc (Below.refl w.heap.size w) (.cells #[.int .i64 x.1.slot, .int .i64 x.1.gen, .int .i64 x.1.tag, .int .i64 x.1.num, .bool x.1.mark, .bool x.2] 63)
  have HR := Lib.hid (h.below hb)
  have HB := Lib.hid hb
  have HC := Lib.hid (hC _ HR.out)
  have HX := Lib.hid (box_rep w x)
  clear h hC hb
  unfold rpv
  all_goals
    go_enter Tryz.func56, Tryz.ntmps56
    go_upto_region 1 with fail
    generalize w.alloc (.cells #[.int .i64 x.1.slot, .int .i64 x.1.gen, .int .i64 x.1.tag, .int .i64 x.1.num, .bool x.1.mark, .bool x.2] 63) = W at HR HC HX HB ⊢
    have hX := HX.out
    have hzx := BlkW.lt hX
    have hrx : w.heap.size ≠ r := fun e => BlkW.ne_ hX HR.out.at_ (by decide) e
    obtain ⟨b0, b1, b2, b3, b4, b5⟩ := rep6 hX
    have hz := BlkW.lt HR.out.at_
    have ck := HR.out.at_.kind
    rw [hk] at ck
    clear hX HX
    go_wp2_with fail
    refine HC.out.mono ?_
    rintro e w1 ⟨rfl, h1⟩
    go_wp2
    first
      | go_end0
      | refine bodyPost_ret (results_none rfl _ _ _) rfl ?_
    exact ⟨rfl, Lib.hid (RStep.below HB.out h1.out)⟩
set_option maxRecDepth 100000 in
set_option maxHeartbeats 1000000 in
theorem goOn_scan (h : RiteP w B r sv fv nv m K) (x : Wd × Bool) (hk : m.st.call.kind = 11) (hC : Goes 94 #[rpv x] B r sv fv nv m m' K) :
    Calls Tryz.prog 56 #[.pointer (some ⟨r, 0, none⟩), rpv x] w (RPost w B r K m') := by
  have hb := below_alloc (Below.refl w.heap.size w) (.cells #[.int .i64 x.1.slot, .int .i64 x.1.gen, .int .i64 x.1.tag, .int .i64 x.1.num, .bool x.1.mark, .bool x.2] 63)
  have HR := Lib.hid (h.below hb)
  have HB := Lib.hid hb
  have HC := Lib.hid (hC _ HR.out)
  have HX := Lib.hid (box_rep w x)
  clear h hC hb
  unfold rpv
  all_goals
    go_enter Tryz.func56, Tryz.ntmps56
    go_upto_region 1 with fail
    generalize w.alloc (.cells #[.int .i64 x.1.slot, .int .i64 x.1.gen, .int .i64 x.1.tag, .int .i64 x.1.num, .bool x.1.mark, .bool x.2] 63) = W at HR HC HX HB ⊢
    have hX := HX.out
    have hzx := BlkW.lt hX
    have hrx : w.heap.size ≠ r := fun e => BlkW.ne_ hX HR.out.at_ (by decide) e
    obtain ⟨b0, b1, b2, b3, b4, b5⟩ := rep6 hX
    have hz := BlkW.lt HR.out.at_
    have ck := HR.out.at_.kind
    rw [hk] at ck
    clear hX HX
    go_wp2_with fail
    refine HC.out.mono ?_
    rintro e w1 ⟨rfl, h1⟩
    go_wp2
    first
      | go_end0
      | refine bodyPost_ret (results_none rfl _ _ _) rfl ?_
    exact ⟨rfl, Lib.hid (RStep.below HB.out h1.out)⟩
theorem within_is (n a b : Int) (w : World) : Calls Tryz.prog 61 #[.int .i64 n, .int .i64 a, .int .i64 b] w fun e w' => e = .returned (.bool (decide (a ≤ n) && decide (n ≤ b))) ∧ w = w' := by
  by_cases h1 : a ≤ n
  · go_enter Tryz.func61, Tryz.ntmps61
    go_wp2
    go_ret
    refine ⟨?_, rfl⟩
    simp [h1]
  · go_enter Tryz.func61, Tryz.ntmps61
    go_wp2
    go_ret
    refine ⟨?_, rfl⟩
    rw [decide_eq_false (Int.not_le.2 h1), Bool.false_and]
    rfl
end
end Go.Proofs.YtihjklimcchkhaaGreatDoor

namespace Go.Proofs.YtihjklimcchkhaaGreatDoor
open Go.RowKit Go.Extern.Stop Go.Stop Go.Extern Go.Sort
section
variable {w w' : World} {B r : Nat} {sv fv nv : Value} {m m' : Rt} {K : Nat → Prop}
/-- A call that can be. -/
def Cl.fine (c : Cl) : Prop := (c.kind = 6 ∧ 0 ≤ c.i ∧ c.i ≤ 8 ∧ 0 ≤ c.j ∧ c.j ≤ 8) ∨ (1 ≤ c.kind ∧ c.kind ≤ 11 ∧ ¬ c.kind = 6 ∧ ¬ c.kind = 7)
theorem can_is (c : Cl) (hc : c.fine) (w : World) : Calls Tryz.prog 54 #[clv c] w fun e w' => e = .returned (.bool true) ∧ Below w.heap.size w w' := by
  unfold clv
  rcases hc with ⟨h6, h1, h2, h3, h4⟩ | ⟨h1, h2, h6, h7⟩
  · go_enter Tryz.func54, Tryz.ntmps54
    go_wp2_with (first | (go_at_call 61; refine (within_is _ _ _ _).mono ?_; rintro e w1 ⟨rfl, rfl⟩; simp only [decide_eq_true h1, decide_eq_true h2, decide_eq_true h3, decide_eq_true h4, Bool.and_true]))
    all_goals
      go_ret
      exact ⟨rfl, below_alloc (Below.refl _ _) _⟩
  · have e6 : (c.kind == 6) = false := by simpa using h6
    have e7 : (c.kind == 7) = false := by simpa using h7
    go_enter Tryz.func54, Tryz.ntmps54
    go_wp2_with (first | (go_at_call 61; refine (within_is _ _ _ _).mono ?_; rintro e w1 ⟨rfl, rfl⟩; simp only [decide_eq_true h1, decide_eq_true h2, Bool.and_true]))
    all_goals
      go_ret
      exact ⟨rfl, below_alloc (Below.refl _ _) _⟩
/-- What an exported call leaves that answers nil. -/
def EPost (w : World) (B r : Nat) (K : Nat → Prop) (m : Rt) (e : Ending) (w' : World) : Prop := e = .returned .nilIface ∧ Hid (RStep w B r K m w')
set_option maxRecDepth 100000 in
set_option maxHeartbeats 1000000 in
theorem Begin_is {K0 : Nat → Prop} (h : RiteP w B r sv fv nv m K0) (hbz : m.st.busy = false) (c : Cl) (hc : c.fine) (hG : ∀ W, RiteP W B r nilS nilS nv { m with st := m.st.begin_ c } K0 → Calls Tryz.prog 56 #[.pointer (some ⟨r, 0, none⟩), rpv (zw, false)] W (RPost W B r K0 m')) :
    Calls Tryz.prog 18 #[.pointer (some ⟨r, 0, none⟩), clv c] w (EPost w B r K0 m') := by
  have hb := below_alloc (Below.refl w.heap.size w) (.cells (clc c).toArray 51)
  have HR := Lib.hid (h.below hb)
  have HB := Lib.hid hb
  have HX := Lib.hid (BlkW.new w 51 (clc c).toArray)
  have HG := Lib.hid hG
  have HC : Hid (∀ w, Calls Tryz.prog 54 #[.agg (clc c).toArray] w fun e w' => e = .returned (.bool true) ∧ Below w.heap.size w w') := Lib.hid (can_is c hc)
  clear h hb hc hG
  show Calls _ _ #[_, .agg (clc c).toArray] _ _
  go_enter Tryz.func18, Tryz.ntmps18
  go_upto_region 1 with fail
  generalize w.alloc (.cells (clc c).toArray 51) = W at HR HX HB ⊢
  have hX := HX.out
  have hzx := BlkW.lt hX
  have hrx : w.heap.size ≠ r := fun e => BlkW.ne_ hX HR.out.at_ (by decide) e
  have HRG := Lib.hid (show W.rangeAt w.heap.size 0 (clc c) from fun j v hv => by rw [Nat.zero_add]; exact (BlkW.cell hX j).trans (by rw [List.getElem?_toArray]; exact hv))
  have hz := BlkW.lt HR.out.at_
  have cb := HR.out.at_.busy
  rw [hbz] at cb
  clear hX HX hbz
  generalize w.heap.size = g at hzx hrx HRG ⊢
  go_wp2_with (refine wpList_load_mid rfl 51 (.tmp 3) rfl g 0 rfl (clc c) _ HRG.out Tryz.underlying51 rfl infoCl ?_)
  refine (HC.out _).mono ?_
  rintro e w1 ⟨rfl, hb1⟩
  have HR1 := Lib.hid (HR.out.below hb1)
  have HB1 := Lib.hid hb1
  have HRG1 := Lib.hid (range_block HRG.out (hb1.block g hzx))
  have hg1 := Nat.lt_of_lt_of_le hzx hb1.size
  have hz1 := BlkW.lt HR1.out.at_
  clear hb1 cb HC HR HRG hzx hz
  have HBG : Hid (Calls Tryz.prog 55 #[.pointer (some ⟨r, 0, none⟩), .agg (clc c).toArray] w1.drew (Leaf w1.drew r nilS nilS nv { m with st := m.st.begin_ c })) := Lib.hid (begin_any HR1.out.at_.drew c)
  go_upto_region 7 with fail
  refine wp_region_held (S := fun w' => w'.rangeAt g 0 (clc c)) (by kernel_rfl) ?_
  have hS : w1.drew.rangeAt g 0 (clc c) := HRG1.out
  show wpAnyH _ _ _ _ _ 5 #[false, false, false, false, false] _ w1.drew
  refine wpAnyH_take (i := 0) (v := .pointer (some ⟨r, 0, none⟩)) rfl (by kernel_rfl) (by kernel_rfl) (by kernel_rfl) (fun _ _ _ h => h) (Or.inl ⟨by rfl, fun w' _ => by go_simp⟩) hS ?_
  simp only [Act.put, List.getElem_toArray, List.getElem_cons_succ, List.getElem_cons_zero, List.setIfInBounds_toArray, List.set_cons_zero, List.set_cons_succ]
  refine wpAnyH_take (i := 1) (v := .pointer (some ⟨r, 0, none⟩)) rfl (by kernel_rfl) (by kernel_rfl) (by kernel_rfl) (fun _ _ _ h => h) (Or.inl ⟨by rfl, fun w' _ => by go_simp⟩) hS ?_
  simp only [Act.put, List.getElem_toArray, List.getElem_cons_succ, List.getElem_cons_zero, List.setIfInBounds_toArray, List.set_cons_zero, List.set_cons_succ]
  refine wpAnyH_take (i := 2) (v := .pointer (some ⟨r, 0, none⟩)) rfl (by kernel_rfl) (by kernel_rfl) (by kernel_rfl) (fun _ _ _ h => h) (Or.inl ⟨by rfl, fun w' _ => by go_simp⟩) hS ?_
  simp only [Act.put, List.getElem_toArray, List.getElem_cons_succ, List.getElem_cons_zero, List.setIfInBounds_toArray, List.set_cons_zero, List.set_cons_succ]
  refine wpAnyH_take (i := 3) (v := .agg (clc c).toArray) rfl (by kernel_rfl) (by kernel_rfl) (by kernel_rfl) (fun _ _ _ h => h) (yieldsIf_load_mid (by rfl) 51 (.tmp 3) rfl g 0 rfl (clc c) _ (fun w' h => h) Tryz.underlying51 rfl infoCl) hS ?_
  simp only [Act.put, List.getElem_toArray, List.getElem_cons_succ, List.getElem_cons_zero, List.setIfInBounds_toArray, List.set_cons_zero, List.set_cons_succ]
  refine wpAnyH_ready (rs := [4]) (by kernel_rfl) (by simp) ?_
  refine AllReadyH.cons rfl (fun K hK => ?_) AllReadyH.nil
  rw [if_pos (by rfl)]
  go_simp
  refine HBG.out.mono ?_
  rintro e w2 ⟨rfl, h1, h2⟩
  refine hK.out _ _ (range_block hS (h2.out.block g hg1 hrx)) (fun _ => ?_)
  refine wpAnyH_done (by kernel_rfl) ?_ _
  clear hK K
  have HP2 := Lib.hid (HR1.out.only (m' := { m with st := m.st.begin_ c }) h1.out (Only.drew.trans h2.out) (.inr ⟨rfl, rfl⟩) (.inr ⟨rfl, rfl⟩) rfl)
  have HO2 := Lib.hid (Only.drew.trans h2.out)
  have HGO : Hid (Calls Tryz.prog 56 #[.pointer (some ⟨r, 0, none⟩), .agg #[.int .i64 0, .int .i64 0, .int .i64 0, .int .i64 0, .bool false, .bool false]] w2 (RPost w2 B r K0 m')) := Lib.hid (HG.out w2 HP2.out)
  clear h1 h2 HBG HG hS HRG1
  go_wp2_with fail
  refine HGO.out.mono ?_
  rintro e w3 ⟨rfl, h3⟩
  go_wp2
  go_ret
  exact ⟨rfl, Lib.hid (RStep.below HB.out (RStep.below HB1.out (RStep.trans (K' := K0) ⟨HO2.out.os, HO2.out.tape, HO2.out.output, HO2.out.size, fun j hj hn => HO2.out.block j hj (fun e => hn (by subst e; exact HR1.out.kr))⟩ (fun _ e => .inl e) h3.out)))⟩
set_option maxRecDepth 100000 in
set_option maxHeartbeats 1000000 in
theorem Took_is (h : RiteP w B r sv fv nv m K) (hbz : m.st.busy = true) (x : Wd × Bool) (hG : ∀ W, RiteP W B r sv fv nv m K → Calls Tryz.prog 56 #[.pointer (some ⟨r, 0, none⟩), rpv x] W (RPost W B r K m')) :
    Calls Tryz.prog 28 #[.pointer (some ⟨r, 0, none⟩), rpv x] w (EPost w B r K m') := by
  have hb := below_alloc (Below.refl w.heap.size w) (.cells #[.int .i64 x.1.slot, .int .i64 x.1.gen, .int .i64 x.1.tag, .int .i64 x.1.num, .bool x.1.mark, .bool x.2] 63)
  have HR := Lib.hid (h.below hb)
  have HB := Lib.hid hb
  have HX := Lib.hid (box_rep w x)
  have HG := Lib.hid (hG _ HR.out)
  unfold rpv at HG
  clear h hb hG
  unfold rpv
  go_enter Tryz.func28, Tryz.ntmps28
  go_upto_region 1 with fail
  generalize w.alloc (.cells #[.int .i64 x.1.slot, .int .i64 x.1.gen, .int .i64 x.1.tag, .int .i64 x.1.num, .bool x.1.mark, .bool x.2] 63) = W at HR HX HB HG ⊢
  have hX := HX.out
  have hzx := BlkW.lt hX
  obtain ⟨b0, b1, b2, b3, b4, b5⟩ := rep6 hX
  have hz := BlkW.lt HR.out.at_
  have cb := HR.out.at_.busy
  rw [hbz] at cb
  clear hX HX hbz
  go_wp2_with fail
  refine HG.out.mono ?_
  rintro e w3 ⟨rfl, h3⟩
  go_wp2
  go_ret
  exact ⟨rfl, Lib.hid (RStep.below HB.out h3.out)⟩
theorem Busy_is (h : RtAt w r sv fv nv m) : Calls Tryz.prog 17 #[.pointer (some ⟨r, 0, none⟩)] w fun e w' => e = .returned (.bool m.st.busy) ∧ w = w' := by
  have cb := h.busy
  have hz := BlkW.lt h
  clear h
  go_enter Tryz.func17, Tryz.ntmps17
  go_wp2
  go_ret
  exact ⟨rfl, rfl⟩
set_option maxRecDepth 100000 in
set_option maxHeartbeats 1000000 in
theorem Reply_is (h : RtAt w r sv fv nv m) : Calls Tryz.prog 46 #[.pointer (some ⟨r, 0, none⟩)] w fun e w' => e = .returned (rpv m.st.last) ∧ Below w.heap.size w w' := by
  have hh := h.range 0 (rpc m.st.last) (by kernel_rfl)
  have c0 := hh 0 _ rfl
  have c1 := hh 1 _ rfl
  have c2 := hh 2 _ rfl
  have c3 := hh 3 _ rfl
  have c4 := hh 4 _ rfl
  have c5 := hh 5 _ rfl
  have hz := BlkW.lt h
  clear hh h
  unfold rpv
  go_enter Tryz.func46, Tryz.ntmps46
  go_wp2
  exact bodyPost_ret (v := rpv m.st.last) (by simp [rpv, results, Tryz.results46, go_sem]) rfl ⟨rfl, below_alloc (Below.refl _ _) _⟩
set_option maxRecDepth 100000 in
set_option maxHeartbeats 1000000 in
theorem Next_busy (h : RtAt w r sv fv nv m) (hb : m.st.busy = true) : Calls Tryz.prog 27 #[.pointer (some ⟨r, 0, none⟩)] w fun e w' => e = .returned (.tuple #[aav m.st.acc, .bool true]) ∧ Below w.heap.size w w' := by
  have hh := h.range 26 (aac m.st.acc) (by kernel_rfl)
  have c0 := hh 0 _ rfl
  have c1 := hh 1 _ rfl
  have c2 := hh 2 _ rfl
  have c3 := hh 3 _ rfl
  have c4 := hh 4 _ rfl
  have c5 := hh 5 _ rfl
  have c6 := hh 6 _ rfl
  have c7 := hh 7 _ rfl
  have c8 := hh 8 _ rfl
  have c9 := hh 9 _ rfl
  have c10 := hh 10 _ rfl
  have c11 := hh 11 _ rfl
  have c12 := hh 12 _ rfl
  have c13 := hh 13 _ rfl
  have cb := h.busy
  rw [hb] at cb
  have hz := BlkW.lt h
  clear hh h hb
  unfold aav
  go_enter Tryz.func27, Tryz.ntmps27
  go_wp2
  exact bodyPost_ret (v := .tuple #[aav m.st.acc, .bool true]) (by simp [aav, results, Tryz.results27, go_sem]) rfl ⟨rfl, below_alloc (Below.refl _ _) _⟩
end
end Go.Proofs.YtihjklimcchkhaaGreatDoor
