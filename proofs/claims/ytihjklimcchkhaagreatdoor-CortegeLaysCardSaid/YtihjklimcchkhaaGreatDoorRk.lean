/- rite: release. A template (made by gen_XRk.py). -/
import Derived.Test.YtihjklimcchkhaaGreatDoorRj
namespace Go.Proofs.YtihjklimcchkhaaGreatDoor
open Go.RowKit Go.Extern.Stop Go.Stop Go.Extern Go.Sort
section
variable {w w' : World} {B r : Nat} {sv fv nv : Value} {m : Rt} {K : Nat → Prop}
set_option maxRecDepth 100000 in
set_option maxHeartbeats 1000000 in
theorem release_end (h : RiteP w B r sv fv nv m K) (hf : m.st.free = []) :
    Calls Tryz.prog 129 #[.pointer (some ⟨r, 0, none⟩)] w (RPost w B r K m.ok) := by
  have HP := Lib.hid h
  have c51 := h.at_.rows.2.1
  have hz := BlkW.lt h.at_
  obtain ⟨ao, cp, hv⟩ : ∃ ao c, fv = .slice ao 0 c := by
    rcases h.free with ⟨e, _⟩ | ⟨b, off, cap, cs, e, _⟩
    · exact e
    · rw [hf] at e; exact ⟨_, _, e⟩
  subst hv
  have HA := Lib.hid (succeed_any h.at_)
  clear h hf
  go_enter Tryz.func129, Tryz.ntmps129
  go_wp2_with fail
  refine HA.out.mono ?_
  rintro e w1 ⟨rfl, h1, h2⟩
  go_wp2
  refine bodyPost_ret (results_none rfl _ _ _) rfl ?_
  exact ⟨rfl, Lib.hid (HP.out.step_only h1.out h2.out (.inr ⟨rfl, rfl⟩) (.inr ⟨rfl, rfl⟩) rfl)⟩
theorem release_nil (m : Rt) (hf : m.st.free = []) : m.release = m.ok := by unfold Rt.release; rw [hf]
def setFP (m : Rt) (l : List Nt) (p : Nat) : Rt := { m with st := { m.st with free := l, pos := p } }
theorem idx_is {x : Nt} {xs : List Nt} {p k : Nat} (hk : k < (xs.drop p).length) (hx : (xs.drop p)[k] = x) (hb : ∀ j, ∀ h : j < k, (xs.drop p)[j] ≠ x) : idxFrom x xs p = p + k := by
  unfold idxFrom
  exact congrArg (p + ·) ((List.findIdx_eq hk).2 ⟨decide_eq_true hx, fun j hj => decide_eq_false (hb j hj)⟩)
theorem release_is (m : Rt) (x : Nt) (l : List Nt) (k0 : Nat) (hf : m.st.free = x :: l) (hi : idxFrom x m.notes m.st.pos = m.st.pos + k0) : m.release = (setFP m l (m.st.pos + k0)).ask ⟨5, 0, 0, 0, x.ref, zw⟩ 8 := by
  unfold Rt.release
  rw [hf]
  dsimp only
  rw [hi]
  rfl
theorem drop_row {W : World} {g cp p : Nat} {xs : List Nt} (h : W.ownsRow B 74 7 (.slice (some ⟨g, 0, none⟩) xs.length cp) xs.length (Sv.flat Sv.nc xs)) (hp : p ≤ xs.length) : Sv.RowC Sv.nc 7 W (.slice (some ⟨g, p * 7, none⟩) (xs.length - p) (cp - p)) (xs.drop p) := by
  have hc : xs.length ≤ cp := by
    rcases h.2 with ⟨e, _⟩ | ⟨g', cap', cur, e, _, _, h1, _⟩
    · cases e
    · injection e with e1 e2 e3; omega
  have hg := (h.lt g rfl).2
  refine .inr ⟨g, p * 7, cp - p, by rw [List.length_drop], hg, by rw [List.length_drop]; omega, fun i hi j v hv => ?_⟩
  rw [List.length_drop] at hi
  have hj : j < 7 := by have := (List.getElem?_eq_some_iff.1 hv).1; simpa [Sv.nc] using this
  have hpi : p + i < xs.length := by omega
  have h1 := h.cellAt ((p + i) * 7 + j) (by have : (p + i + 1) * 7 ≤ xs.length * 7 := Nat.mul_le_mul_right _ hpi; omega)
  rw [Sv.flat_at Sv.nc_len xs (p + i) j hpi hj] at h1
  rw [show p * 7 + i * 7 + j = (p + i) * 7 + j by omega, h1]
  rw [List.getElem_drop] at hv
  exact hv
def setFree (m : Rt) (l : List Nt) : Rt := { m with st := { m.st with free := l } }
/-- What may be freed has its first one taken. -/
theorem RiteP.refree (h : RiteP w B r sv fv nv m K) (x : Nt) (l : List Nt) (hf : m.st.free = x :: l) : ∃ b off cap A cs, fv = .slice (some ⟨b, off, none⟩) (l.length + 1) cap ∧ (if cap = 1 then (some ⟨b, off, none⟩ : Option Addr) else some ⟨b, off + 7, none⟩) = some A ∧ b < w.heap.size ∧ b ≠ r ∧ l.length + 1 ≤ cap ∧ w.rangeAt b off (Sv.nc x) ∧
    BlkW w b 74 cs ∧ ∀ W fvx, RtAt W r sv fvx nv (setFree m l) → fvx = .slice (some A) l.length (cap - 1) → Only r w W → RiteP W B r sv fvx nv (setFree m l) K := by
  rcases h.free with ⟨_, e⟩ | ⟨b, off, cap, cs, e, h1, h2, h3, h4, h5⟩
  · rw [hf] at e; cases e
  · rw [hf] at e h1
    rw [List.length_cons] at e h1
    have hbr : b ≠ r := fun k => by subst k; exact BlkW.ne_ h3 h.at_ (by decide) rfl
    have h50 : w.rangeAt b off (Sv.nc x) := by
      have := h5 0 (by rw [hf]; simp)
      simpa [hf] using this
    have key : ∀ A, (if cap = 1 then (some ⟨b, off, none⟩ : Option Addr) else some ⟨b, off + 7, none⟩) = some A → ∀ W fvx, RtAt W r sv fvx nv (setFree m l) → fvx = .slice (some A) l.length (cap - 1) → Only r w W → RiteP W B r sv fvx nv (setFree m l) K := by
      intro A hA W fvx hr ev ho
      have n := h.ne
      have hblk := ho.block b h3.lt hbr
      refine ⟨hr, own_off h.said ho (fun c e k => n.1 (k ▸ e)), own_off h.notes ho (fun c e k => n.2.1 (k ▸ e)), ?_, h.kr, h.ks, h.kn, ?_, fun c hc => ⟨(h.low c hc).1, Nat.lt_of_lt_of_le (h.low c hc).2 ho.size⟩⟩
      · by_cases hc : cap = 1
        · refine .inl ⟨⟨some A, cap - 1, ?_⟩, show l = [] from List.eq_nil_of_length_eq_zero (by omega)⟩
          rw [ev]; congr 1; omega
        · rw [if_neg hc] at hA
          injection hA with hA
          subst hA
          refine .inr ⟨b, off + 7, cap - 1, cs, ev, by show l.length ≤ cap - 1; omega, h2, hblk.trans h3, h4, fun i hi => ?_⟩
          have hi' : i < l.length := hi
          have h5i : i + 1 < m.st.free.length := by rw [hf, List.length_cons]; omega
          have h6 : w.rangeAt b (off + (i + 1) * 7) (Sv.nc (l[i]'hi')) := by
            have h7 := h5 (i + 1) h5i
            have e7 : m.st.free[i + 1]'h5i = l[i]'hi' := by simp [hf]
            rw [e7] at h7
            exact h7
          rw [show off + 7 + i * 7 = off + (i + 1) * 7 by omega]
          exact range_block h6 hblk
      · refine .inr fun c ec => ?_
        rw [ev] at ec
        have hk : K b := by
          rcases h.kf with k | k
          · rw [hf] at k; cases k
          · exact k b (by rw [e]; rfl)
        have : A.block = b := by
          split at hA
          · injection hA with hA; rw [← hA]
          · injection hA with hA; rw [← hA]
        have ec : A.block = c := by simpa [Value.ownBlock] using ec
        rw [← ec, this]; exact hk
    by_cases hc : cap = 1
    · exact ⟨b, off, cap, ⟨b, off, none⟩, cs, e, by simp [hc], h3.lt, hbr, h1, h50, h3, key _ (by simp [hc])⟩
    · exact ⟨b, off, cap, ⟨b, off + 7, none⟩, cs, e, by simp [hc], h3.lt, hbr, h1, h50, h3, key _ (by simp [hc])⟩
set_option maxRecDepth 100000 in
set_option maxHeartbeats 1000000 in
theorem release_next (h : RiteP w B r sv fv nv m K) (x : Nt) (l : List Nt) (hf : m.st.free = x :: l) (k0 : Nat) (hl : m.notes.length ≤ 1000) (hk : k0 < (m.notes.drop m.st.pos).length) (hx : (m.notes.drop m.st.pos)[k0] = x) (hb : ∀ j, ∀ h : j < k0, (m.notes.drop m.st.pos)[j] ≠ x) :
    Calls Tryz.prog 129 #[.pointer (some ⟨r, 0, none⟩)] w (RPost w B r K m.release) := by
  have hp : m.st.pos < m.notes.length := by rw [List.length_drop] at hk; omega
  have hk2 : m.st.pos + k0 < m.notes.length := by rw [List.length_drop] at hk; omega
  obtain ⟨b, off, cap, A, cs, efv, hA, hbz, hbr, hcap, hrx, hbb, hkey⟩ := h.refree x l hf
  obtain ⟨g, cp, enw⟩ : ∃ g cap, nv = .slice (some ⟨g, 0, none⟩) m.notes.length cap := by
    rcases h.notes.2 with ⟨_, e⟩ | ⟨g, cap, cur, e, _⟩
    · omega
    · exact ⟨g, cap, e⟩
  have HKEY := Lib.hid hkey
  have HP := Lib.hid h
  have c51 := h.at_.rows.2.1
  rw [efv] at c51
  have f51 := h.at_.frozen 51
  have hz := BlkW.lt h.at_
  obtain ⟨q0, q1, q2, q3, q4, q5, q6⟩ := Sv.cell7_of hrx
  obtain ⟨L1, hL1⟩ : ∃ L1, L1 = l.length + 1 := ⟨_, rfl⟩
  rw [← hL1] at c51 hcap
  have HL1 := Lib.hid hL1
  have j1 : ((L1 : Int) == 0) = false := by simp; omega
  have j2 : (0 : Int) < (L1 : Int) := by omega
  have j3 : (1 : Int) ≤ (L1 : Int) := by omega
  have j4 : (L1 : Int) ≤ (cap : Int) := by omega
  have j5 : 1 ≤ L1 := by omega
  have j6 : 1 ≤ cap := by omega
  have HIX := Lib.hid (fun (W : World) (v : Value) (hr : Sv.RowC Sv.nc 7 W v (m.notes.drop m.st.pos)) => Sv.index_any W v _ x k0 hr (by rw [List.length_drop]; omega) hk hx hb)
  have HFI := Lib.hid (idx_is hk hx hb)
  have HK := Lib.hid hk
  have HFR := Lib.hid hf
  have HNW := Lib.hid enw
  have HP2 := Lib.hid hp
  have HK2 := Lib.hid hk2
  clear h hf hkey hrx hbb hL1 hx hb enw hp hk2
  clear hk
  go_enter Tryz.func129, Tryz.ntmps129
  go_upto_region 4 with fail
  have hl1 : L1 - 1 = l.length := by have := HL1.out; omega
  have RF := HKEY.out (w.setCell ⟨r, 51, none⟩ (.slice (some A) (L1 - 1) (cap - 1))) (.slice (some A) (L1 - 1) (cap - 1)) (HP.out.at_.set 51 _ (by kernel_rfl)) (by rw [hl1]) ((Off.refl (fun j => j = r) w).set (.inl rfl) 51 _)
  have OF : Off K w (w.setCell ⟨r, 51, none⟩ (.slice (some A) (L1 - 1) (cap - 1))) := (Off.refl K w).set (.inl HP.out.kr) 51 _
  have hsz : (w.setCell ⟨r, 51, none⟩ (.slice (some A) (L1 - 1) (cap - 1))).heap.size = w.heap.size := by simp [World.setCell]
  have BX := BlkW.new (w.setCell ⟨r, 51, none⟩ (.slice (some A) (L1 - 1) (cap - 1))) 74 #[.int .i64 x.ref.slot, .int .i64 x.ref.gen, .int .i64 x.ref.tag, .int .i64 x.ref.num, .bool x.ref.mark, .int .i64 x.birth, .int .i64 x.death]
  rw [hsz] at BX
  have RG := Lib.hid (RF.below (below_alloc (Below.refl _ _) (.cells #[.int .i64 x.ref.slot, .int .i64 x.ref.gen, .int .i64 x.ref.tag, .int .i64 x.ref.num, .bool x.ref.mark, .int .i64 x.birth, .int .i64 x.death] 74)))
  have OG := Lib.hid (OF.alloc (.cells #[.int .i64 x.ref.slot, .int .i64 x.ref.gen, .int .i64 x.ref.tag, .int .i64 x.ref.num, .bool x.ref.mark, .int .i64 x.birth, .int .i64 x.death] 74))
  clear RF OF hsz c51 f51 q0 q1 q2 q3 q4 q5 q6 j1 j2 j3 j4 hA HP HKEY hl1
  generalize (w.setCell ⟨r, 51, none⟩ (.slice (some A) (L1 - 1) (cap - 1))).alloc (.cells #[.int .i64 x.ref.slot, .int .i64 x.ref.gen, .int .i64 x.ref.tag, .int .i64 x.ref.num, .bool x.ref.mark, .int .i64 x.birth, .int .i64 x.death] 74) = W3 at BX RG OG ⊢
  obtain ⟨b0, b1, b2, b3, b4, b5, b6⟩ := Sv.cell7_of (n := x) (b := w.heap.size) (off := 0) (w := W3) (fun j v hv => by rw [Nat.zero_add, BX.cell j, List.getElem?_toArray]; exact hv)
  simp only [Nat.zero_add] at b1 b2 b3 b4 b5 b6
  have hg2 := BX.lt
  have hg2r : w.heap.size ≠ r := by omega
  clear BX
  have c52 : W3.cell? ⟨r, 52, none⟩ = some (.int .i64 (m.st.pos : Int)) := RG.out.at_.rows.2.2.1
  have c105 : W3.cell? ⟨r, 105, none⟩ = some nv := RG.out.at_.n105
  rw [HNW.out] at c105
  have hz3 := BlkW.lt RG.out.at_
  have hcp : m.notes.length ≤ cp := by
    have h0 := RG.out.notes
    rw [HNW.out] at h0
    rcases h0.2 with ⟨e, _⟩ | ⟨g', cap', cur, e, _, _, h1, _⟩
    · cases e
    · injection e with e1 e2 e3; rw [e3]; exact h1
  have HROW := Lib.hid (drop_row (W := W3.drew) (g := g) (cp := cp) (p := m.st.pos) (xs := m.notes) (B := B) (by have h0 := RG.out.notes; rw [HNW.out] at h0; exact h0) (Nat.le_of_lt HP2.out))
  have k1 : (0 : Int) ≤ (m.st.pos : Int) := by omega
  have k2 : (m.st.pos : Int) ≤ (m.notes.length : Int) := by have := HP2.out; omega
  have k3 : m.st.pos ≤ m.notes.length := by have := HP2.out; omega
  have k4 : ¬ cp = m.st.pos := by have := HP2.out; omega
  have k5 : (m.notes.length : Int) ≤ (cp : Int) := by omega
  have k6 : m.st.pos ≤ cp := by omega
  have HWR := Lib.hid (show IntKind.i64.wrap ((m.st.pos : Int) + (k0 : Int)) = ((m.st.pos + k0 : Nat) : Int) by rw [IntKind.wrap_i64]; have := HK2.out; omega)
  have HLL := Lib.hid hl
  clear hcp hl
  generalize w.heap.size = g2 at b0 b1 b2 b3 b4 b5 b6 hg2 hg2r ⊢
  refine wp_region_noPanic ?_
  refine wp_region_held_drew (S := (fun w' => w'.cell? ⟨g2, 0, none⟩ = some (.int .i64 x.ref.slot) ∧ w'.cell? ⟨g2, 1, none⟩ = some (.int .i64 x.ref.gen) ∧ w'.cell? ⟨g2, 2, none⟩ = some (.int .i64 x.ref.tag) ∧ w'.cell? ⟨g2, 3, none⟩ = some (.int .i64 x.ref.num) ∧ w'.cell? ⟨g2, 4, none⟩ = some (.bool x.ref.mark) ∧ w'.cell? ⟨g2, 5, none⟩ = some (.int .i64 x.birth) ∧ w'.cell? ⟨g2, 6, none⟩ = some (.int .i64 x.death) ∧ w'.cell? ⟨r, 105, none⟩ = some (.slice (some ⟨g, 0, none⟩) m.notes.length cp))) (by kernel_rfl) ?_ (fun hHeld => ?_)
  · (try dsimp only)
    (first
      | go_keep
      | (go_split_ands
         (repeat' apply And.intro) <;> first | exact keep_cell hb (by assumption) | exact set_cell_ne (by decide) (by assumption) | (rw [World.cell?_setCell_far _ _ _ _ (fun e => hg2r e.symm)]; assumption)))
  refine wpAnyH_take (i := 0) (v := ?_) rfl (by kernel_rfl) (by kernel_rfl) (by kernel_rfl) (fun _ _ _ h => h) (Or.inl ⟨by rfl, ?_⟩) (by assumption) ?_
  rotate_left
  · (intro w hSw; (try dsimp only at hSw); go_simp; (try with_reducible rfl))
  try simp only [Act.put, List.getElem_toArray, List.getElem_cons_succ, List.getElem_cons_zero, List.setIfInBounds_toArray, List.set_cons_zero, List.set_cons_succ]
  refine wpAnyH_take (i := 1) (v := ?_) rfl (by kernel_rfl) (by kernel_rfl) (by kernel_rfl) (fun _ _ _ h => h) (Or.inl ⟨by rfl, ?_⟩) (by assumption) ?_
  rotate_left
  · (intro w hSw; (try dsimp only at hSw); go_simp; (try with_reducible rfl))
  try simp only [Act.put, List.getElem_toArray, List.getElem_cons_succ, List.getElem_cons_zero, List.setIfInBounds_toArray, List.set_cons_zero, List.set_cons_succ]
  refine wpAnyH_take (i := 2) (v := ?_) rfl (by kernel_rfl) (by kernel_rfl) (by kernel_rfl) (fun _ _ _ h => h) (Or.inl ⟨by rfl, ?_⟩) (by assumption) ?_
  rotate_left
  · (intro w hSw; (try dsimp only at hSw); go_simp; (try with_reducible rfl))
  try simp only [Act.put, List.getElem_toArray, List.getElem_cons_succ, List.getElem_cons_zero, List.setIfInBounds_toArray, List.set_cons_zero, List.set_cons_succ]
  refine wpAnyH_take (i := 3) (v := ?_) rfl (by kernel_rfl) (by kernel_rfl) (by kernel_rfl) (fun _ _ _ h => h) (Or.inl ⟨by rfl, ?_⟩) (by assumption) ?_
  rotate_left
  · (intro w hSw; (try dsimp only at hSw); go_simp; (try with_reducible rfl))
  try simp only [Act.put, List.getElem_toArray, List.getElem_cons_succ, List.getElem_cons_zero, List.setIfInBounds_toArray, List.set_cons_zero, List.set_cons_succ]
  refine wpAnyH_take (i := 5) (v := ?_) rfl (by kernel_rfl) (by kernel_rfl) (by kernel_rfl) (fun _ _ _ h => h) (Or.inl ⟨by rfl, ?_⟩) (by assumption) ?_
  rotate_left
  · (intro w hSw; (try dsimp only at hSw); go_simp; (try with_reducible rfl))
  try simp only [Act.put, List.getElem_toArray, List.getElem_cons_succ, List.getElem_cons_zero, List.setIfInBounds_toArray, List.set_cons_zero, List.set_cons_succ]
  refine wpAnyH_take (i := 6) (v := ?_) rfl (by kernel_rfl) (by kernel_rfl) (by kernel_rfl) (fun _ _ _ h => h) (Or.inl ⟨by rfl, ?_⟩) (by assumption) ?_
  rotate_left
  · (intro w hSw; (try dsimp only at hSw); go_simp; (try with_reducible rfl))
  try simp only [Act.put, List.getElem_toArray, List.getElem_cons_succ, List.getElem_cons_zero, List.setIfInBounds_toArray, List.set_cons_zero, List.set_cons_succ]
  refine wpAnyH_take (i := 7) (v := ?_) rfl (by kernel_rfl) (by kernel_rfl) (by kernel_rfl) (fun _ _ _ h => h) (Or.inl ⟨by rfl, ?_⟩) (by assumption) ?_
  rotate_left
  · (intro w hSw; (try dsimp only at hSw); go_simp; (try with_reducible rfl))
  try simp only [Act.put, List.getElem_toArray, List.getElem_cons_succ, List.getElem_cons_zero, List.setIfInBounds_toArray, List.set_cons_zero, List.set_cons_succ]
  refine wpAnyH_take (i := 8) (v := ?_) rfl (by kernel_rfl) (by kernel_rfl) (by kernel_rfl) (fun _ _ _ h => h) (Or.inl ⟨by rfl, ?_⟩) (by assumption) ?_
  rotate_left
  · (intro w hSw; (try dsimp only at hSw); go_simp; (try with_reducible rfl))
  try simp only [Act.put, List.getElem_toArray, List.getElem_cons_succ, List.getElem_cons_zero, List.setIfInBounds_toArray, List.set_cons_zero, List.set_cons_succ]
  refine wpAnyH_take (i := 9) (v := ?_) rfl (by kernel_rfl) (by kernel_rfl) (by kernel_rfl) (fun _ _ _ h => h) (Or.inl ⟨by rfl, ?_⟩) (by assumption) ?_
  rotate_left
  · (intro w hSw; (try dsimp only at hSw); go_simp; (try with_reducible rfl))
  try simp only [Act.put, List.getElem_toArray, List.getElem_cons_succ, List.getElem_cons_zero, List.setIfInBounds_toArray, List.set_cons_zero, List.set_cons_succ]
  refine wpAnyH_take (i := 10) (v := ?_) rfl (by kernel_rfl) (by kernel_rfl) (by kernel_rfl) (fun _ _ _ h => h) (Or.inl ⟨by rfl, ?_⟩) (by assumption) ?_
  rotate_left
  · (intro w hSw; (try dsimp only at hSw); go_simp; (try with_reducible rfl))
  try simp only [Act.put, List.getElem_toArray, List.getElem_cons_succ, List.getElem_cons_zero, List.setIfInBounds_toArray, List.set_cons_zero, List.set_cons_succ]
  refine wpAnyH_take (i := 11) (v := ?_) rfl (by kernel_rfl) (by kernel_rfl) (by kernel_rfl) (fun _ _ _ h => h) (Or.inl ⟨by rfl, ?_⟩) (by assumption) ?_
  rotate_left
  · (intro w hSw; (try dsimp only at hSw); go_simp; (try with_reducible rfl))
  try simp only [Act.put, List.getElem_toArray, List.getElem_cons_succ, List.getElem_cons_zero, List.setIfInBounds_toArray, List.set_cons_zero, List.set_cons_succ]
  refine wpAnyH_take (i := 12) (v := ?_) rfl (by kernel_rfl) (by kernel_rfl) (by kernel_rfl) (fun _ _ _ h => h) (Or.inl ⟨by rfl, ?_⟩) (by assumption) ?_
  rotate_left
  · (intro w hSw; (try dsimp only at hSw); go_simp; (try with_reducible rfl))
  try simp only [Act.put, List.getElem_toArray, List.getElem_cons_succ, List.getElem_cons_zero, List.setIfInBounds_toArray, List.set_cons_zero, List.set_cons_succ]
  refine wpAnyH_take (i := 15) (v := ?_) rfl (by kernel_rfl) (by kernel_rfl) (by kernel_rfl) (fun _ _ _ h => h) (Or.inl ⟨by rfl, ?_⟩) (by assumption) ?_
  rotate_left
  · (intro w hSw; (try dsimp only at hSw); go_simp; (try with_reducible rfl))
  try simp only [Act.put, List.getElem_toArray, List.getElem_cons_succ, List.getElem_cons_zero, List.setIfInBounds_toArray, List.set_cons_zero, List.set_cons_succ]
  refine wpAnyH_ready (rs := [4, 13]) (by kernel_rfl) (by simp) ?_
  refine AllReadyH.cons rfl (fun K2 hK => ?_) (AllReadyH.cons rfl (fun K2 hK => ?_) (AllReadyH.nil))
  rw [if_pos (by rfl)]
  go_simp
  refine hK.out _ _ ?_ (fun hHeld => ?_)
  · (try dsimp only)
    (first
      | go_keep
      | (go_split_ands
         (repeat' apply And.intro) <;> first | exact keep_cell hb (by assumption) | exact set_cell_ne (by decide) (by assumption) | (rw [World.cell?_setCell_far _ _ _ _ (fun e => hg2r e.symm)]; assumption)))
  clear hK K2
  try simp only [Act.put, List.getElem_toArray, List.getElem_cons_succ, List.getElem_cons_zero, List.setIfInBounds_toArray, List.set_cons_zero, List.set_cons_succ]
  refine wpAnyH_ready (rs := [13]) (by kernel_rfl) (by simp) ?_
  refine AllReadyH.cons rfl (fun K2 hK => ?_) AllReadyH.nil
  rw [if_pos (by rfl)]
  go_simp
  refine hK.out _ _ ?_ (fun hHeld => ?_)
  · (try dsimp only)
    (first
      | go_keep
      | (go_split_ands
         (repeat' apply And.intro) <;> first | exact keep_cell hb (by assumption) | exact set_cell_ne (by decide) (by assumption) | (rw [World.cell?_setCell_far _ _ _ _ (fun e => hg2r e.symm)]; assumption)))
  clear hK K2
  try simp only [Act.put, List.getElem_toArray, List.getElem_cons_succ, List.getElem_cons_zero, List.setIfInBounds_toArray, List.set_cons_zero, List.set_cons_succ]
  refine wpAnyH_take (i := 14) (v := ?_) rfl (by kernel_rfl) (by kernel_rfl) (by kernel_rfl) (fun _ _ _ h => h) (Or.inl ⟨by rfl, ?_⟩) (by assumption) ?_
  rotate_left
  · (intro w hSw; (try dsimp only at hSw); go_simp; (try with_reducible rfl))
  try simp only [Act.put, List.getElem_toArray, List.getElem_cons_succ, List.getElem_cons_zero, List.setIfInBounds_toArray, List.set_cons_zero, List.set_cons_succ]
  refine wpAnyH_ready (rs := [16]) (by kernel_rfl) (by simp) ?_
  refine AllReadyH.cons rfl (fun K2 hK => ?_) AllReadyH.nil
  rw [if_pos (by rfl)]
  go_simp
  (first | (go_at_call 167; refine (HIX.out _ _ HROW.out).mono ?_; rintro e w5 ⟨rfl, hb⟩; have e52 := keep_cell hb c52; have RU := RG.out.at_.off (Off.of_below (K := fun _ => False) ((show Below W3.heap.size W3 W3.drew from (Below.refl _ _).drew).trans hb)) (fun e => e); have e52f := RU.frozen 52; have hz5 := BlkW.lt RU; replace RU := Lib.hid RU))
  refine hK.out _ _ ?_ (fun hHeld => ?_)
  · (try dsimp only)
    (first
      | go_keep
      | (go_split_ands
         (repeat' apply And.intro) <;> first | exact keep_cell hb (by assumption) | exact set_cell_ne (by decide) (by assumption) | (rw [World.cell?_setCell_far _ _ _ _ (fun e => hg2r e.symm)]; assumption)))
  clear hK K2
  try simp only [Act.put, List.getElem_toArray, List.getElem_cons_succ, List.getElem_cons_zero, List.setIfInBounds_toArray, List.set_cons_zero, List.set_cons_succ]
  refine wpAnyH_take (i := 17) (v := ?_) rfl (by kernel_rfl) (by kernel_rfl) (by kernel_rfl) (fun _ _ _ h => h) (Or.inl ⟨by rfl, ?_⟩) (by assumption) ?_
  rotate_left
  · (intro w hSw; (try dsimp only at hSw); go_simp; (try with_reducible rfl))
  try simp only [Act.put, List.getElem_toArray, List.getElem_cons_succ, List.getElem_cons_zero, List.setIfInBounds_toArray, List.set_cons_zero, List.set_cons_succ]
  refine wpAnyH_take (i := 18) (v := ?_) rfl (by kernel_rfl) (by kernel_rfl) (by kernel_rfl) (fun _ _ _ h => h) (Or.inl ⟨by rfl, ?_⟩) (by assumption) ?_
  rotate_left
  · (intro w hSw; (try dsimp only at hSw); go_simp; (try with_reducible rfl))
  try simp only [Act.put, List.getElem_toArray, List.getElem_cons_succ, List.getElem_cons_zero, List.setIfInBounds_toArray, List.set_cons_zero, List.set_cons_succ]
  refine wpAnyH_take (i := 19) (v := ?_) rfl (by kernel_rfl) (by kernel_rfl) (by kernel_rfl) (fun _ _ _ h => h) (Or.inl ⟨by rfl, ?_⟩) (by assumption) ?_
  rotate_left
  · (intro w hSw; (try dsimp only at hSw); go_simp; (try with_reducible rfl))
  try simp only [Act.put, List.getElem_toArray, List.getElem_cons_succ, List.getElem_cons_zero, List.setIfInBounds_toArray, List.set_cons_zero, List.set_cons_succ]
  refine wpAnyH_take (i := 20) (v := ?_) rfl (by kernel_rfl) (by kernel_rfl) (by kernel_rfl) (fun _ _ _ h => h) (Or.inl ⟨by rfl, ?_⟩) (by assumption) ?_
  rotate_left
  · (intro w hSw; (try dsimp only at hSw); go_simp; (try with_reducible rfl))
  try simp only [Act.put, List.getElem_toArray, List.getElem_cons_succ, List.getElem_cons_zero, List.setIfInBounds_toArray, List.set_cons_zero, List.set_cons_succ]
  refine wpAnyH_ready (rs := [21]) (by kernel_rfl) (by simp) ?_
  refine AllReadyH.cons rfl (fun K2 hK => ?_) AllReadyH.nil
  rw [if_pos (by rfl)]
  go_simp
  refine hK.out _ _ ?_ (fun hHeld => ?_)
  · (try dsimp only)
    (first
      | go_keep
      | (go_split_ands
         (repeat' apply And.intro) <;> first | exact keep_cell hb (by assumption) | exact set_cell_ne (by decide) (by assumption) | (rw [World.cell?_setCell_far _ _ _ _ (fun e => hg2r e.symm)]; assumption)))
  clear hK K2
  try simp only [Act.put, List.getElem_toArray, List.getElem_cons_succ, List.getElem_cons_zero, List.setIfInBounds_toArray, List.set_cons_zero, List.set_cons_succ]
  refine wpAnyH_done (by kernel_rfl) ?_ _
  refine NoPanic.normal ?_
  rotate_left
  rw [if_pos (by rfl)]
  go_simp
  refine hK.out _ _ ?_ (fun hHeld => ?_)
  · (try dsimp only)
    (first
      | go_keep
      | (go_split_ands
         (repeat' apply And.intro) <;> first | exact keep_cell hb (by assumption) | exact set_cell_ne (by decide) (by assumption) | (rw [World.cell?_setCell_far _ _ _ _ (fun e => hg2r e.symm)]; assumption)))
  clear hK K2
  try simp only [Act.put, List.getElem_toArray, List.getElem_cons_succ, List.getElem_cons_zero, List.setIfInBounds_toArray, List.set_cons_zero, List.set_cons_succ]
  refine wpAnyH_take (i := 14) (v := ?_) rfl (by kernel_rfl) (by kernel_rfl) (by kernel_rfl) (fun _ _ _ h => h) (Or.inl ⟨by rfl, ?_⟩) (by assumption) ?_
  rotate_left
  · (intro w hSw; (try dsimp only at hSw); go_simp; (try with_reducible rfl))
  try simp only [Act.put, List.getElem_toArray, List.getElem_cons_succ, List.getElem_cons_zero, List.setIfInBounds_toArray, List.set_cons_zero, List.set_cons_succ]
  refine wpAnyH_ready (rs := [4, 16]) (by kernel_rfl) (by simp) ?_
  refine AllReadyH.cons rfl (fun K2 hK => ?_) (AllReadyH.cons rfl (fun K2 hK => ?_) (AllReadyH.nil))
  rw [if_pos (by rfl)]
  go_simp
  refine hK.out _ _ ?_ (fun hHeld => ?_)
  · (try dsimp only)
    (first
      | go_keep
      | (go_split_ands
         (repeat' apply And.intro) <;> first | exact keep_cell hb (by assumption) | exact set_cell_ne (by decide) (by assumption) | (rw [World.cell?_setCell_far _ _ _ _ (fun e => hg2r e.symm)]; assumption)))
  clear hK K2
  try simp only [Act.put, List.getElem_toArray, List.getElem_cons_succ, List.getElem_cons_zero, List.setIfInBounds_toArray, List.set_cons_zero, List.set_cons_succ]
  refine wpAnyH_ready (rs := [16]) (by kernel_rfl) (by simp) ?_
  refine AllReadyH.cons rfl (fun K2 hK => ?_) AllReadyH.nil
  rw [if_pos (by rfl)]
  go_simp
  (first | (go_at_call 167; refine (HIX.out _ _ HROW.out).mono ?_; rintro e w5 ⟨rfl, hb⟩; have e52 := keep_cell hb c52; have RU := RG.out.at_.off (Off.of_below (K := fun _ => False) ((show Below W3.heap.size W3 W3.drew from (Below.refl _ _).drew).trans hb)) (fun e => e); have e52f := RU.frozen 52; have hz5 := BlkW.lt RU; replace RU := Lib.hid RU))
  refine hK.out _ _ ?_ (fun hHeld => ?_)
  · (try dsimp only)
    (first
      | go_keep
      | (go_split_ands
         (repeat' apply And.intro) <;> first | exact keep_cell hb (by assumption) | exact set_cell_ne (by decide) (by assumption) | (rw [World.cell?_setCell_far _ _ _ _ (fun e => hg2r e.symm)]; assumption)))
  clear hK K2
  try simp only [Act.put, List.getElem_toArray, List.getElem_cons_succ, List.getElem_cons_zero, List.setIfInBounds_toArray, List.set_cons_zero, List.set_cons_succ]
  refine wpAnyH_take (i := 17) (v := ?_) rfl (by kernel_rfl) (by kernel_rfl) (by kernel_rfl) (fun _ _ _ h => h) (Or.inl ⟨by rfl, ?_⟩) (by assumption) ?_
  rotate_left
  · (intro w hSw; (try dsimp only at hSw); go_simp; (try with_reducible rfl))
  try simp only [Act.put, List.getElem_toArray, List.getElem_cons_succ, List.getElem_cons_zero, List.setIfInBounds_toArray, List.set_cons_zero, List.set_cons_succ]
  refine wpAnyH_take (i := 18) (v := ?_) rfl (by kernel_rfl) (by kernel_rfl) (by kernel_rfl) (fun _ _ _ h => h) (Or.inl ⟨by rfl, ?_⟩) (by assumption) ?_
  rotate_left
  · (intro w hSw; (try dsimp only at hSw); go_simp; (try with_reducible rfl))
  try simp only [Act.put, List.getElem_toArray, List.getElem_cons_succ, List.getElem_cons_zero, List.setIfInBounds_toArray, List.set_cons_zero, List.set_cons_succ]
  refine wpAnyH_take (i := 19) (v := ?_) rfl (by kernel_rfl) (by kernel_rfl) (by kernel_rfl) (fun _ _ _ h => h) (Or.inl ⟨by rfl, ?_⟩) (by assumption) ?_
  rotate_left
  · (intro w hSw; (try dsimp only at hSw); go_simp; (try with_reducible rfl))
  try simp only [Act.put, List.getElem_toArray, List.getElem_cons_succ, List.getElem_cons_zero, List.setIfInBounds_toArray, List.set_cons_zero, List.set_cons_succ]
  refine wpAnyH_take (i := 20) (v := ?_) rfl (by kernel_rfl) (by kernel_rfl) (by kernel_rfl) (fun _ _ _ h => h) (Or.inl ⟨by rfl, ?_⟩) (by assumption) ?_
  rotate_left
  · (intro w hSw; (try dsimp only at hSw); go_simp; (try with_reducible rfl))
  try simp only [Act.put, List.getElem_toArray, List.getElem_cons_succ, List.getElem_cons_zero, List.setIfInBounds_toArray, List.set_cons_zero, List.set_cons_succ]
  refine wpAnyH_ready (rs := [21]) (by kernel_rfl) (by simp) ?_
  refine AllReadyH.cons rfl (fun K2 hK => ?_) AllReadyH.nil
  rw [if_pos (by rfl)]
  go_simp
  refine hK.out _ _ ?_ (fun hHeld => ?_)
  · (try dsimp only)
    (first
      | go_keep
      | (go_split_ands
         (repeat' apply And.intro) <;> first | exact keep_cell hb (by assumption) | exact set_cell_ne (by decide) (by assumption) | (rw [World.cell?_setCell_far _ _ _ _ (fun e => hg2r e.symm)]; assumption)))
  clear hK K2
  try simp only [Act.put, List.getElem_toArray, List.getElem_cons_succ, List.getElem_cons_zero, List.setIfInBounds_toArray, List.set_cons_zero, List.set_cons_succ]
  refine wpAnyH_done (by kernel_rfl) ?_ _
  refine NoPanic.normal ?_
  rotate_left
  rw [if_pos (by rfl)]
  go_simp
  (first | (go_at_call 167; refine (HIX.out _ _ HROW.out).mono ?_; rintro e w5 ⟨rfl, hb⟩; have e52 := keep_cell hb c52; have RU := RG.out.at_.off (Off.of_below (K := fun _ => False) ((show Below W3.heap.size W3 W3.drew from (Below.refl _ _).drew).trans hb)) (fun e => e); have e52f := RU.frozen 52; have hz5 := BlkW.lt RU; replace RU := Lib.hid RU))
  refine hK.out _ _ ?_ (fun hHeld => ?_)
  · (try dsimp only)
    (first
      | go_keep
      | (go_split_ands
         (repeat' apply And.intro) <;> first | exact keep_cell hb (by assumption) | exact set_cell_ne (by decide) (by assumption) | (rw [World.cell?_setCell_far _ _ _ _ (fun e => hg2r e.symm)]; assumption)))
  clear hK K2
  try simp only [Act.put, List.getElem_toArray, List.getElem_cons_succ, List.getElem_cons_zero, List.setIfInBounds_toArray, List.set_cons_zero, List.set_cons_succ]
  refine wpAnyH_ready (rs := [4]) (by kernel_rfl) (by simp) ?_
  refine AllReadyH.cons rfl (fun K2 hK => ?_) AllReadyH.nil
  rw [if_pos (by rfl)]
  go_simp
  refine hK.out _ _ ?_ (fun hHeld => ?_)
  · (try dsimp only)
    (first
      | go_keep
      | (go_split_ands
         (repeat' apply And.intro) <;> first | exact keep_cell hb (by assumption) | exact set_cell_ne (by decide) (by assumption) | (rw [World.cell?_setCell_far _ _ _ _ (fun e => hg2r e.symm)]; assumption)))
  clear hK K2
  try simp only [Act.put, List.getElem_toArray, List.getElem_cons_succ, List.getElem_cons_zero, List.setIfInBounds_toArray, List.set_cons_zero, List.set_cons_succ]
  refine wpAnyH_take (i := 17) (v := ?_) rfl (by kernel_rfl) (by kernel_rfl) (by kernel_rfl) (fun _ _ _ h => h) (Or.inl ⟨by rfl, ?_⟩) (by assumption) ?_
  rotate_left
  · (intro w hSw; (try dsimp only at hSw); go_simp; (try with_reducible rfl))
  try simp only [Act.put, List.getElem_toArray, List.getElem_cons_succ, List.getElem_cons_zero, List.setIfInBounds_toArray, List.set_cons_zero, List.set_cons_succ]
  refine wpAnyH_take (i := 18) (v := ?_) rfl (by kernel_rfl) (by kernel_rfl) (by kernel_rfl) (fun _ _ _ h => h) (Or.inl ⟨by rfl, ?_⟩) (by assumption) ?_
  rotate_left
  · (intro w hSw; (try dsimp only at hSw); go_simp; (try with_reducible rfl))
  try simp only [Act.put, List.getElem_toArray, List.getElem_cons_succ, List.getElem_cons_zero, List.setIfInBounds_toArray, List.set_cons_zero, List.set_cons_succ]
  refine wpAnyH_take (i := 19) (v := ?_) rfl (by kernel_rfl) (by kernel_rfl) (by kernel_rfl) (fun _ _ _ h => h) (Or.inl ⟨by rfl, ?_⟩) (by assumption) ?_
  rotate_left
  · (intro w hSw; (try dsimp only at hSw); go_simp; (try with_reducible rfl))
  try simp only [Act.put, List.getElem_toArray, List.getElem_cons_succ, List.getElem_cons_zero, List.setIfInBounds_toArray, List.set_cons_zero, List.set_cons_succ]
  refine wpAnyH_take (i := 20) (v := ?_) rfl (by kernel_rfl) (by kernel_rfl) (by kernel_rfl) (fun _ _ _ h => h) (Or.inl ⟨by rfl, ?_⟩) (by assumption) ?_
  rotate_left
  · (intro w hSw; (try dsimp only at hSw); go_simp; (try with_reducible rfl))
  try simp only [Act.put, List.getElem_toArray, List.getElem_cons_succ, List.getElem_cons_zero, List.setIfInBounds_toArray, List.set_cons_zero, List.set_cons_succ]
  refine wpAnyH_ready (rs := [21]) (by kernel_rfl) (by simp) ?_
  refine AllReadyH.cons rfl (fun K2 hK => ?_) AllReadyH.nil
  rw [if_pos (by rfl)]
  go_simp
  refine hK.out _ _ ?_ (fun hHeld => ?_)
  · (try dsimp only)
    (first
      | go_keep
      | (go_split_ands
         (repeat' apply And.intro) <;> first | exact keep_cell hb (by assumption) | exact set_cell_ne (by decide) (by assumption) | (rw [World.cell?_setCell_far _ _ _ _ (fun e => hg2r e.symm)]; assumption)))
  clear hK K2
  try simp only [Act.put, List.getElem_toArray, List.getElem_cons_succ, List.getElem_cons_zero, List.setIfInBounds_toArray, List.set_cons_zero, List.set_cons_succ]
  refine wpAnyH_done (by kernel_rfl) ?_ _
  refine NoPanic.normal ?_
  all_goals
    rw [HWR.out]
    have hb0 : Below W3.heap.size W3 w5 := (show Below W3.heap.size W3 W3.drew from (Below.refl _ _).drew).trans hb
    have RP5 := RG.out.below hb0
    have RP6 := Lib.hid (RP5.only (sv' := sv) (m' := setFP m l (m.st.pos + k0)) (RP5.at_.set 52 (.int .i64 ((m.st.pos + k0 : Nat) : Int)) (by kernel_rfl)) ((Off.refl (fun j => j = r) w5).set (.inl rfl) 52 _) (.inl ⟨rfl, rfl⟩) (.inl ⟨rfl, rfl⟩) rfl)
    have O6 := Lib.hid ((OG.out.trans (Off.of_below (K := fun _ => False) hb0) (fun _ _ e => e.elim)).set (.inl RG.out.kr) 52 (.int .i64 ((m.st.pos + k0 : Nat) : Int)))
    have e0 := keep_cell hb0 b0
    have e1 := keep_cell hb0 b1
    have e2 := keep_cell hb0 b2
    have e3 := keep_cell hb0 b3
    have e4 := keep_cell hb0 b4
    have hg5 := Nat.lt_of_lt_of_le hg2 hb0.size
    have O7 : Only r w5 (w5.setCell ⟨r, 52, none⟩ (.int .i64 ((m.st.pos + k0 : Nat) : Int))) := (Off.refl (fun j => j = r) w5).set (.inl rfl) 52 _
    have f0 := O7.cell hg5 hg2r e0
    have f1 := O7.cell hg5 hg2r e1
    have f2 := O7.cell hg5 hg2r e2
    have f3 := O7.cell hg5 hg2r e3
    have f4 := O7.cell hg5 hg2r e4
    have hg6 := O7.lt hg5
    clear RP5 hb0 hb e52 e52f RU e0 e1 e2 e3 e4 O7 b0 b1 b2 b3 b4 b5 b6 c52 c105 HROW
    generalize w5.setCell ⟨r, 52, none⟩ (.int .i64 ((m.st.pos + k0 : Nat) : Int)) = W6 at RP6 O6 f0 f1 f2 f3 f4 hg6 ⊢
    have hz6 := BlkW.lt RP6.out.at_
    have HASK := Lib.hid (ask_any RP6.out.at_.drew ⟨5, 0, 0, 0, x.ref, zw⟩ 8)
    go_upto_region 5 with fail
    go_region_held3 (fun w' => w'.cell? ⟨g2, 0, none⟩ = some (.int .i64 x.ref.slot) ∧ w'.cell? ⟨g2, 1, none⟩ = some (.int .i64 x.ref.gen) ∧ w'.cell? ⟨g2, 2, none⟩ = some (.int .i64 x.ref.tag) ∧ w'.cell? ⟨g2, 3, none⟩ = some (.int .i64 x.ref.num) ∧ w'.cell? ⟨g2, 4, none⟩ = some (.bool x.ref.mark))
      (first | go_keep | (have hq := h2.out; exact ⟨hq.cell hg6 hg2r f0, hq.cell hg6 hg2r f1, hq.cell hg6 hg2r f2, hq.cell hg6 hg2r f3, hq.cell hg6 hg2r f4⟩))
      (first | (go_at_call 119; refine HASK.out.mono ?_; rintro e w7 ⟨rfl, h1, h2⟩))
    go_wp2
    go_end0
    refine ⟨rfl, Lib.hid ?_⟩
    rw [release_is m x l k0 HFR.out HFI.out]
    exact RStep.trans O6.out (fun _ e => .inl e) (RP6.out.step_only h1.out (Only.drew.trans h2.out) (.inl ⟨rfl, rfl⟩) (.inl ⟨rfl, rfl⟩) rfl)
end
end Go.Proofs.YtihjklimcchkhaaGreatDoor
