/- rite: strike, release. A template (made by gen_XRj.py). -/
import Derived.Test.YtihjklimcchkhaaGreatDoorRHH
namespace Go.Proofs.YtihjklimcchkhaaGreatDoor
open Go.RowKit Go.Extern.Stop Go.Stop Go.Extern Go.Sort
section
variable {w w' : World} {B r : Nat} {sv fv nv : Value} {m : Rt} {K : Nat → Prop}
theorem RtAt.off {K' : Nat → Prop} (h : RtAt w r sv fv nv m) (ho : Off K' w w') (hn : ¬ K' r) : RtAt w' r sv fv nv m := (ho.block r (BlkW.lt h) hn).trans h
set_option maxRecDepth 100000 in
set_option maxHeartbeats 2000000 in
theorem strike_yes (h : RiteP w B r sv fv nv m K) (hp : m.st.pos < m.notes.length) (hl : m.notes.length ≤ 1000) (hf : m.freed ≤ 100000) :
    Calls Tryz.prog 130 #[.pointer (some ⟨r, 0, none⟩), .bool true] w (RPost w B r K (m.strike true)) := by
  have HP := Lib.hid h
  have c52 := h.at_.rows.2.2.1
  have c105 := h.at_.n105
  have hz := BlkW.lt h.at_
  have hrn := h.ne.2.1
  have j1 : (m.st.pos : Int) ≤ 1000 := by omega
  have j2 : (m.freed : Int) ≤ 100000 := by omega
  obtain ⟨g, cap, hnv⟩ : ∃ g cap, nv = .slice (some ⟨g, 0, none⟩) m.notes.length cap := by
    rcases h.notes.2 with ⟨_, e⟩ | ⟨g, cap, cur, e, _⟩
    · omega
    · exact ⟨g, cap, e⟩
  have hN := h.notes
  subst hnv
  obtain ⟨t, ht⟩ : ∃ t, m.notes.length = m.st.pos + 1 + t := ⟨m.notes.length - (m.st.pos + 1), by omega⟩
  have HD := Sv.delete_any w.drew B g cap m.st.pos (m.st.pos + 1) m.notes.length t m.notes rfl ht rfl (show w.drew.ownsRow B 74 7 _ m.notes.length (Sv.flat Sv.nc m.notes) from hN) (by omega)
  have hwr : (((m.st.pos + 1 : Nat)) : Int) = IntKind.i64.wrap ((m.st.pos : Int) + 1) := by rw [IntKind.wrap_i64]; omega
  rw [hwr] at HD
  clear hwr
  have HD := Lib.hid (HD.mono (R' := fun e w' => e = .returned (.slice (some ⟨g, 0, none⟩) (m.st.pos + t) cap) ∧ Hid (Sv.OwnN w' B (.slice (some ⟨g, 0, none⟩) (m.st.pos + t) cap) (m.notes.eraseIdx m.st.pos)) ∧ Hid (Off (fun j => j = g) w w')) (fun e w' hh => ⟨hh.1, hh.2.1, Lib.hid (Off.trans ((Off.refl (fun j => j = g) w).then (Below.refl _ _).drew) hh.2.2.out (fun _ _ e => e))⟩))
  have hgr : g ≠ r := fun e => hrn (by simp [Value.ownBlock, e])
  obtain ⟨L, hL⟩ : ∃ L, L = m.notes.length := ⟨_, rfl⟩
  have HL := Lib.hid hL
  have HT := Lib.hid ht
  have HQ := Lib.hid hp
  clear h hN ht hp hL hl hf
  go_enter Tryz.func130, Tryz.ntmps130
  go_upto_region 2 with fail
  refine wp_region_noPanic ?_
  refine wp_region_held_drew (S := (fun w' => w'.cell? ⟨r, 52, none⟩ = some (.int .i64 (m.st.pos : Int)))) (by kernel_rfl) ?_ (fun hHeld => ?_)
  · (try dsimp only)
    (first | go_keep | exact off_cell ho.out hz (fun e => hgr e.symm) c52 | exact set_cell_ne (by decide) (by assumption))
  refine wpAnyH_take (i := 0) (v := ?_) rfl (by kernel_rfl) (by kernel_rfl) (by kernel_rfl) (fun _ _ _ h => h) (Or.inl ⟨by rfl, ?_⟩) (by assumption) ?_
  rotate_left
  · (intro w hSw; (try dsimp only at hSw); go_simp; (try with_reducible rfl))
  try simp only [Act.put, List.getElem_toArray, List.getElem_cons_succ, List.getElem_cons_zero, List.setIfInBounds_toArray, List.set_cons_zero, List.set_cons_succ]
  refine wpAnyH_take (i := 1) (v := ?_) rfl (by kernel_rfl) (by kernel_rfl) (by kernel_rfl) (fun _ _ _ h => h) (Or.inl ⟨by rfl, ?_⟩) (by assumption) ?_
  rotate_left
  · (intro w hSw; (try dsimp only at hSw); go_simp; (try with_reducible rfl))
  try simp only [Act.put, List.getElem_toArray, List.getElem_cons_succ, List.getElem_cons_zero, List.setIfInBounds_toArray, List.set_cons_zero, List.set_cons_succ]
  refine wpAnyH_take (i := 2) (v := ?_) rfl (by kernel_rfl) (by kernel_rfl) (by kernel_rfl) (fun _ _ _ h => h) (Or.inl ⟨by rfl, ?_⟩) (by assumption) ?_
  rotate_left
  · (intro w hSw; (try dsimp only at hSw); go_simp; (try with_reducible rfl))
  try simp only [Act.put, List.getElem_toArray, List.getElem_cons_succ, List.getElem_cons_zero, List.setIfInBounds_toArray, List.set_cons_zero, List.set_cons_succ]
  refine wpAnyH_take (i := 3) (v := ?_) rfl (by kernel_rfl) (by kernel_rfl) (by kernel_rfl) (fun _ _ _ h => h) (Or.inl ⟨by rfl, ?_⟩) (by assumption) ?_
  rotate_left
  · (intro w hSw; (try dsimp only at hSw); go_simp; (try with_reducible rfl))
  try simp only [Act.put, List.getElem_toArray, List.getElem_cons_succ, List.getElem_cons_zero, List.setIfInBounds_toArray, List.set_cons_zero, List.set_cons_succ]
  refine wpAnyH_take (i := 5) (v := ?_) rfl (by kernel_rfl) (by kernel_rfl) (by kernel_rfl) (fun _ _ _ h => h) (Or.inl ⟨by rfl, ?_⟩) (by assumption) ?_
  rotate_left
  · (intro w hSw; (try dsimp only at hSw); go_simp; (try with_reducible rfl))
  try simp only [Act.put, List.getElem_toArray, List.getElem_cons_succ, List.getElem_cons_zero, List.setIfInBounds_toArray, List.set_cons_zero, List.set_cons_succ]
  refine wpAnyH_take (i := 6) (v := ?_) rfl (by kernel_rfl) (by kernel_rfl) (by kernel_rfl) (fun _ _ _ h => h) (Or.inl ⟨by rfl, ?_⟩) (by assumption) ?_
  rotate_left
  · (intro w hSw; (try dsimp only at hSw); go_simp; (try with_reducible rfl))
  try simp only [Act.put, List.getElem_toArray, List.getElem_cons_succ, List.getElem_cons_zero, List.setIfInBounds_toArray, List.set_cons_zero, List.set_cons_succ]
  refine wpAnyH_take (i := 7) (v := ?_) rfl (by kernel_rfl) (by kernel_rfl) (by kernel_rfl) (fun _ _ _ h => h) (Or.inl ⟨by rfl, ?_⟩) (by assumption) ?_
  rotate_left
  · (intro w hSw; (try dsimp only at hSw); go_simp; (try with_reducible rfl))
  try simp only [Act.put, List.getElem_toArray, List.getElem_cons_succ, List.getElem_cons_zero, List.setIfInBounds_toArray, List.set_cons_zero, List.set_cons_succ]
  refine wpAnyH_take (i := 8) (v := ?_) rfl (by kernel_rfl) (by kernel_rfl) (by kernel_rfl) (fun _ _ _ h => h) (Or.inl ⟨by rfl, ?_⟩) (by assumption) ?_
  rotate_left
  · (intro w hSw; (try dsimp only at hSw); go_simp; (try with_reducible rfl))
  try simp only [Act.put, List.getElem_toArray, List.getElem_cons_succ, List.getElem_cons_zero, List.setIfInBounds_toArray, List.set_cons_zero, List.set_cons_succ]
  refine wpAnyH_take (i := 9) (v := ?_) rfl (by kernel_rfl) (by kernel_rfl) (by kernel_rfl) (fun _ _ _ h => h) (Or.inl ⟨by rfl, ?_⟩) (by assumption) ?_
  rotate_left
  · (intro w hSw; (try dsimp only at hSw); go_simp; (try with_reducible rfl))
  try simp only [Act.put, List.getElem_toArray, List.getElem_cons_succ, List.getElem_cons_zero, List.setIfInBounds_toArray, List.set_cons_zero, List.set_cons_succ]
  refine wpAnyH_take (i := 10) (v := ?_) rfl (by kernel_rfl) (by kernel_rfl) (by kernel_rfl) (fun _ _ _ h => h) (Or.inl ⟨by rfl, ?_⟩) (by assumption) ?_
  rotate_left
  · (intro w hSw; (try dsimp only at hSw); go_simp; (try with_reducible rfl))
  try simp only [Act.put, List.getElem_toArray, List.getElem_cons_succ, List.getElem_cons_zero, List.setIfInBounds_toArray, List.set_cons_zero, List.set_cons_succ]
  refine wpAnyH_take (i := 11) (v := ?_) rfl (by kernel_rfl) (by kernel_rfl) (by kernel_rfl) (fun _ _ _ h => h) (Or.inl ⟨by rfl, ?_⟩) (by assumption) ?_
  rotate_left
  · (intro w hSw; (try dsimp only at hSw); go_simp; (try with_reducible rfl))
  try simp only [Act.put, List.getElem_toArray, List.getElem_cons_succ, List.getElem_cons_zero, List.setIfInBounds_toArray, List.set_cons_zero, List.set_cons_succ]
  refine wpAnyH_take (i := 12) (v := ?_) rfl (by kernel_rfl) (by kernel_rfl) (by kernel_rfl) (fun _ _ _ h => h) (Or.inl ⟨by rfl, ?_⟩) (by assumption) ?_
  rotate_left
  · (intro w hSw; (try dsimp only at hSw); go_simp; (try with_reducible rfl))
  try simp only [Act.put, List.getElem_toArray, List.getElem_cons_succ, List.getElem_cons_zero, List.setIfInBounds_toArray, List.set_cons_zero, List.set_cons_succ]
  refine wpAnyH_take (i := 13) (v := ?_) rfl (by kernel_rfl) (by kernel_rfl) (by kernel_rfl) (fun _ _ _ h => h) (Or.inl ⟨by rfl, ?_⟩) (by assumption) ?_
  rotate_left
  · (intro w hSw; (try dsimp only at hSw); go_simp; (try with_reducible rfl))
  try simp only [Act.put, List.getElem_toArray, List.getElem_cons_succ, List.getElem_cons_zero, List.setIfInBounds_toArray, List.set_cons_zero, List.set_cons_succ]
  refine wpAnyH_take (i := 14) (v := ?_) rfl (by kernel_rfl) (by kernel_rfl) (by kernel_rfl) (fun _ _ _ h => h) (Or.inl ⟨by rfl, ?_⟩) (by assumption) ?_
  rotate_left
  · (intro w hSw; (try dsimp only at hSw); go_simp; (try with_reducible rfl))
  try simp only [Act.put, List.getElem_toArray, List.getElem_cons_succ, List.getElem_cons_zero, List.setIfInBounds_toArray, List.set_cons_zero, List.set_cons_succ]
  refine wpAnyH_take (i := 15) (v := ?_) rfl (by kernel_rfl) (by kernel_rfl) (by kernel_rfl) (fun _ _ _ h => h) (Or.inl ⟨by rfl, ?_⟩) (by assumption) ?_
  rotate_left
  · (intro w hSw; (try dsimp only at hSw); go_simp; (try with_reducible rfl))
  try simp only [Act.put, List.getElem_toArray, List.getElem_cons_succ, List.getElem_cons_zero, List.setIfInBounds_toArray, List.set_cons_zero, List.set_cons_succ]
  refine wpAnyH_ready (rs := [4]) (by kernel_rfl) (by simp) ?_
  refine AllReadyH.cons rfl (fun K2 hK => ?_) AllReadyH.nil
  rw [if_pos (by rfl)]
  go_simp
  refine hK.out _ _ ?_ (fun hHeld => ?_)
  · (try dsimp only)
    (first | go_keep | exact off_cell ho.out hz (fun e => hgr e.symm) c52 | exact set_cell_ne (by decide) (by assumption))
  clear hK K2
  try simp only [Act.put, List.getElem_toArray, List.getElem_cons_succ, List.getElem_cons_zero, List.setIfInBounds_toArray, List.set_cons_zero, List.set_cons_succ]
  refine wpAnyH_ready (rs := [16]) (by kernel_rfl) (by simp) ?_
  refine AllReadyH.cons rfl (fun K2 hK => ?_) AllReadyH.nil
  rw [if_pos (by rfl)]
  go_simp
  (first | (go_at_call 168; refine HD.out.mono ?_; rintro e u1 ⟨rfl, hown, ho⟩; have RU := HP.out.at_.off ho.out (fun e => hgr e.symm); have d105 := RU.n105; have fu := RU.frozen 105; replace RU := Lib.hid RU; have hz1 := Nat.lt_of_lt_of_le hz ho.out.size))
  refine hK.out _ _ ?_ (fun hHeld => ?_)
  · (try dsimp only)
    (first | go_keep | exact off_cell ho.out hz (fun e => hgr e.symm) c52 | exact set_cell_ne (by decide) (by assumption))
  clear hK K2
  try simp only [Act.put, List.getElem_toArray, List.getElem_cons_succ, List.getElem_cons_zero, List.setIfInBounds_toArray, List.set_cons_zero, List.set_cons_succ]
  refine wpAnyH_take (i := 17) (v := ?_) rfl (by kernel_rfl) (by kernel_rfl) (by kernel_rfl) (fun _ _ _ h => h) (Or.inl ⟨by rfl, ?_⟩) (by assumption) ?_
  rotate_left
  · (intro w hSw; (try dsimp only at hSw); go_simp; (try with_reducible rfl))
  try simp only [Act.put, List.getElem_toArray, List.getElem_cons_succ, List.getElem_cons_zero, List.setIfInBounds_toArray, List.set_cons_zero, List.set_cons_succ]
  refine wpAnyH_take (i := 18) (v := ?_) rfl (by kernel_rfl) (by kernel_rfl) (by kernel_rfl) (fun _ _ _ h => h) (Or.inl ⟨by rfl, ?_⟩) (by assumption) ?_
  rotate_left
  · (intro w hSw; (try dsimp only at hSw); go_simp; (try with_reducible rfl))
  try simp only [Act.put, List.getElem_toArray, List.getElem_cons_succ, List.getElem_cons_zero, List.setIfInBounds_toArray, List.set_cons_zero, List.set_cons_succ]
  refine wpAnyH_ready (rs := [19]) (by kernel_rfl) (by simp) ?_
  refine AllReadyH.cons rfl (fun K2 hK => ?_) AllReadyH.nil
  rw [if_pos (by rfl)]
  go_simp
  refine hK.out _ _ ?_ (fun hHeld => ?_)
  · (try dsimp only)
    (first | go_keep | exact off_cell ho.out hz (fun e => hgr e.symm) c52 | exact set_cell_ne (by decide) (by assumption))
  clear hK K2
  try simp only [Act.put, List.getElem_toArray, List.getElem_cons_succ, List.getElem_cons_zero, List.setIfInBounds_toArray, List.set_cons_zero, List.set_cons_succ]
  refine wpAnyH_done (by kernel_rfl) ?_ _
  refine NoPanic.normal ?_
  have hlen : (m.notes.eraseIdx m.st.pos).length = m.st.pos + t := by
    rw [List.length_eraseIdx_of_lt HQ.out]
    have := HT.out
    omega
  have S1 := Lib.hid (HP.out.renoted (u1 := u1) (v1 := .slice (some ⟨g, 0, none⟩) (m.st.pos + t) cap) ⟨ho.out.os, ho.out.tape, ho.out.output, ho.out.size, fun j hj hn => ho.out.block j hj (fun e => hn (by simp [Value.ownBlock, e]))⟩ (m.notes.eraseIdx m.st.pos) (by have h := hown.out; unfold Sv.OwnN at h; exact h) rfl)
  have R2 := Lib.hid (RU.out.set 105 (.slice (some ⟨g, 0, none⟩) (m.st.pos + t) cap) (sv' := sv) (fv' := fv) (nv' := .slice (some ⟨g, 0, none⟩) (m.st.pos + t) cap) (m' := m) (by kernel_rfl))
  clear d105 fu RU hown ho c52 c105 HD hz
  generalize u1.setCell ⟨r, 105, none⟩ (.slice (some ⟨g, 0, none⟩) (m.st.pos + t) cap) = W2 at S1 R2 ⊢
  have c106 := R2.out.rows.2.2.2
  have f106 := R2.out.frozen 106
  have hz2 := BlkW.lt R2.out
  go_wp2
  go_end0
  refine ⟨rfl, Lib.hid (S1.out.then_ fun K' ⟨sv', fv', nv', h'⟩ => ?_)⟩
  exact h'.step_only (sv' := sv') (fv' := fv') (m' := m.strike true) (h'.at_.set 106 (.int .i64 ((m.freed : Int) + 1)) (by kernel_rfl)) ((Off.refl (fun j => j = r) W2).set (.inl rfl) 106 _) (.inl ⟨rfl, rfl⟩) (.inl ⟨rfl, rfl⟩) rfl
end
end Go.Proofs.YtihjklimcchkhaaGreatDoor
