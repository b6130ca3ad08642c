/- rite: listen, loose, release, strike. A template (made by gen_XRi.py). -/
import Derived.Test.YtjilhncnbkaebaaGreatDoorRh
namespace Go.Proofs.YtjilhncnbkaebaaGreatDoor
open Go.RowKit Go.Extern.Stop Go.Stop Go.Extern Go.Sort
section
variable {w w' : World} {B r : Nat} {sv fv nv : Value} {m : Rt} {K : Nat → Prop}
theorem RtAt.rows (h : RtAt w r sv fv nv m) : w.cell? ⟨r, 50, none⟩ = some sv ∧ w.cell? ⟨r, 51, none⟩ = some fv ∧ w.cell? ⟨r, 52, none⟩ = some (.int .i64 (m.st.pos : Int)) ∧ w.cell? ⟨r, 106, none⟩ = some (.int .i64 (m.freed : Int)) :=
  ⟨h.cell 50 (by kernel_rfl), h.cell 51 (by kernel_rfl), h.cell 52 (by kernel_rfl), h.cell 106 (by kernel_rfl)⟩
theorem div9 (n : Nat) : (n : Int) / 9 = ((n / 9 : Nat) : Int) := by omega
theorem mod9 (n : Nat) : (n : Int) % 9 = ((n % 9 : Nat) : Int) := by omega
/-- A slice of so many. -/
def _root_.Go.Value.isSliceOf (v : Value) (n : Nat) : Prop := ∃ ao c, v = .slice ao n c
set_option maxRecDepth 100000 in
set_option maxHeartbeats 2000000 in
theorem listen_more (h : RtAt w r sv fv nv m) (hs : sv.isSliceOf m.st.said.length) (ht : m.thr ≤ 6) (hw : m.saysWords = true) (hl : m.st.said.length < m.thr * 9) :
    Calls Tryz.prog 110 #[.pointer (some ⟨r, 0, none⟩)] w fun e w' => e = .returned (.bool true) ∧ Hid (RtAt w' r sv fv nv (m.load (0, 0, (keepAt (m.st.said.length / 9) (m.st.said.length % 9) : Nat)) 7)) ∧ Hid (Only r w w') := by
  have HR := Lib.hid h
  have c50 := h.rows.1
  have c55 := h.fix.2.2.1
  have hz := BlkW.lt h
  obtain ⟨ao, cp, rfl⟩ := hs
  obtain ⟨n, hn⟩ : ∃ n, n = m.st.said.length := ⟨_, rfl⟩
  rw [← hn] at c50 hl
  have HN := Lib.hid hn
  have j1 : (n : Int) < (m.thr : Int) * 9 := by omega
  have j2 : wrap64 ((m.thr : Int) * 9) = (m.thr : Int) * 9 := IntWalk.wrap64_in _ ⟨by omega, by omega⟩
  clear h hn
  go_enter Tryz.func110, Tryz.ntmps110
  go_wp2_with fail
  refine (saysWords_any HR.out).mono ?_
  rintro e w1 ⟨rfl, rfl⟩
  rw [hw]
  go_wp2_with fail
  rw [div9, mod9]
  refine (keep_is (n / 9) (n % 9) (by omega) (by omega) _).mono ?_
  rintro e w2 ⟨rfl, hb⟩
  have HR2 := Lib.hid (HR.out.below hb)
  have HO2 := Lib.hid (Only.of_below (r := r) hb)
  clear hb HR c50 c55
  have hD := (HR2.out.below (below_alloc (Below.refl _ _) (.cells #[.int .i64 0, .int .i64 0, .int .i64 ((keepAt (n / 9) (n % 9) : Nat) : Int)] 47))).drew
  have HA := Lib.hid (load_any hD (0, 0, (keepAt (n / 9) (n % 9) : Nat)) 7)
  have hz2 := BlkW.lt HR2.out
  clear hD
  go_upto_region 5 with fail
  go_region_with (first | (go_at_call 105; refine HA.out.mono ?_; rintro e w3 ⟨rfl, h1, h2⟩))
  all_goals
    go_wp2
    go_ret
    have e := HN.out
    subst e
    exact ⟨rfl, h1, Lib.hid ((HO2.out.trans (Only.of_below (below_alloc (Below.refl _ _) _).drew)).trans h2.out)⟩
set_option maxRecDepth 100000 in
set_option maxHeartbeats 2000000 in
theorem listen_none (h : RtAt w r sv fv nv m) (hs : sv.isSliceOf m.st.said.length) (ht : m.thr ≤ 6) (hw : m.saysWords = true) (hq : m.saysSpan = false) (hl : ¬ m.st.said.length < m.thr * 9) :
    Calls Tryz.prog 110 #[.pointer (some ⟨r, 0, none⟩)] w fun e w' => e = .returned (.bool false) ∧ w = w' := by
  have HR := Lib.hid h
  have c50 := h.rows.1
  have c55 := h.fix.2.2.1
  have hz := BlkW.lt h
  obtain ⟨ao, cp, rfl⟩ := hs
  obtain ⟨n, hn⟩ : ∃ n, n = m.st.said.length := ⟨_, rfl⟩
  rw [← hn] at c50 hl
  have HN := Lib.hid hn
  have j1 : ¬ (n : Int) < (m.thr : Int) * 9 := by omega
  have j3 : (m.thr : Int) * 9 ≤ (n : Int) := by omega
  have j2 : wrap64 ((m.thr : Int) * 9) = (m.thr : Int) * 9 := IntWalk.wrap64_in _ ⟨by omega, by omega⟩
  clear h hn
  go_enter Tryz.func110, Tryz.ntmps110
  go_wp2_with fail
  refine (saysWords_any HR.out).mono ?_
  rintro e w1 ⟨rfl, rfl⟩
  rw [hw]
  go_wp2_with fail
  refine (saysSpan_any HR.out).mono ?_
  rintro e w1 ⟨rfl, rfl⟩
  rw [hq]
  go_wp2
  go_ret
  exact ⟨rfl, rfl⟩
/-! ### loose -/
theorem RtAt.n105 (h : RtAt w r sv fv nv m) : w.cell? ⟨r, 105, none⟩ = some nv := h.nvc
theorem keepsH (he : m.eng = 2) (now : Int) : m.keeps now = Sv.slotP m.st.said := by
  funext n
  unfold Rt.keeps Sv.slotP
  rw [if_pos he]
  rfl
set_option maxRecDepth 100000 in
set_option maxHeartbeats 2000000 in
theorem loose_haz (h : RiteP w B r sv fv nv m K) (he : m.eng = 2) (hl : m.notes.length ≤ 200) (hk : m.st.said.length ≤ 200) (now : Int) :
    Calls Tryz.prog 113 #[.pointer (some ⟨r, 0, none⟩), .int .i64 now] w fun e w' => ∃ a, e = .returned a ∧ Hid (Sv.OwnN w' w.heap.size a (m.loose now)) ∧ Hid (Below w.heap.size w w') := by
  have HP := Lib.hid h
  have c53 := h.at_.fix.1
  rw [he] at c53
  have c50 := h.at_.rows.1
  have c105 := h.at_.n105
  have hz := BlkW.lt h.at_
  have HC := Lib.hid (Sv.Slots_any nv sv m.notes m.st.said w.drew (Sv.own_row Sv.nc_len (show w.drew.ownsRow B 74 7 nv m.notes.length (Sv.flat Sv.nc m.notes) from h.notes)) (Sv.own_row Sv.wc_len (show w.drew.ownsRow B 34 5 sv m.st.said.length (Sv.flat Sv.wc m.st.said) from h.said)) hl hk)
  have HE := Lib.hid (keepsH he now)
  clear h
  go_enter Tryz.func113, Tryz.ntmps113
  go_upto_region 4 with fail
  go_region_held3 (fun w' => w'.cell? ⟨r, 50, none⟩ = some sv ∧ w'.cell? ⟨r, 105, none⟩ = some nv)
    (first | go_keep | (have hq := hb.out; exact ⟨keep_cell hq c50, keep_cell hq c105⟩))
    (first | (go_at_call 137; refine HC.out.mono ?_; rintro e w3 ⟨a, b, rfl, ra, rb, hb⟩))
  all_goals
    obtain ⟨aa, ca, ea⟩ := Sv.own_slice ra.out
    subst ea
    go_wp2
    go_ret
    refine ⟨_, rfl, ?_, Lib.hid ((show Below w.heap.size w w.drew from (Below.refl _ _).drew).trans hb.out)⟩
    unfold Rt.loose
    rw [HE.out]
    exact ra
set_option maxRecDepth 100000 in
set_option maxHeartbeats 2000000 in
theorem strike_no (h : RiteP w B r sv fv nv m K) (hp : m.st.pos ≤ 2000) :
    Calls Tryz.prog 115 #[.pointer (some ⟨r, 0, none⟩), .bool false] w (RPost w B r K (m.strike false)) := by
  have HP := Lib.hid h
  have c52 := h.at_.rows.2.2.1
  have f52 := h.at_.frozen 52
  have hz := BlkW.lt h.at_
  have j1 : (m.st.pos : Int) ≤ 2000 := by omega
  clear h
  go_enter Tryz.func115, Tryz.ntmps115
  go_wp2
  refine bodyPost_ret (results_none rfl _ _ _) rfl ?_
  refine ⟨rfl, Lib.hid ?_⟩
  exact HP.out.step_only (sv' := sv) (fv' := fv) (m' := m.strike false) (HP.out.at_.set 52 (.int .i64 ((m.st.pos : Int) + 1)) (by kernel_rfl)) ((Off.refl (fun j => j = r) w).set (.inl rfl) 52 _) (.inl ⟨rfl, rfl⟩) (.inl ⟨rfl, rfl⟩) rfl
theorem off_cell {K' : Nat → Prop} {b o : Nat} {v : Value} (h : Off K' w w') (hb : b < w.heap.size) (hn : ¬ K' b) (e : w.cell? ⟨b, o, none⟩ = some v) : w'.cell? ⟨b, o, none⟩ = some v := (h.cell (o := o) hb hn).trans e
/-- The row of notes is another one in the same block. -/
theorem RiteP.renoted {u1 : World} (h : RiteP w B r sv fv nv m K) (O1 : Off (fun j => nv.ownBlock = some j) w u1) (ns : List Nt) {v1 : Value} (ho : u1.ownsRow B 74 7 v1 ns.length (Sv.flat Sv.nc ns)) (ha : v1.ownBlock = nv.ownBlock) :
    RStep w B r K { m with notes := ns } (u1.setCell ⟨r, 105, none⟩ v1) := by
  have hne := h.ne
  have RU : RtAt u1 r sv fv nv m := (O1.block r (BlkW.lt h.at_) hne.2.1).trans h.at_
  have RV : RtAt (u1.setCell ⟨r, 105, none⟩ v1) r sv fv v1 { m with notes := ns } := RU.set 105 v1 (by kernel_rfl)
  have O2 : Off (fun j => j = r) u1 (u1.setCell ⟨r, 105, none⟩ v1) := (Off.refl (fun j => j = r) u1).set (.inl rfl) 105 v1
  have O3 : Off (fun j => nv.ownBlock = some j ∨ j = r) w (u1.setCell ⟨r, 105, none⟩ v1) :=
    (show Off (fun j => nv.ownBlock = some j ∨ j = r) w u1 from ⟨O1.os, O1.tape, O1.output, O1.size, fun j hj hn => O1.block j hj (fun e => hn (.inl e))⟩).trans O2 (fun _ _ e => .inr e)
  refine ⟨K, ⟨sv, fv, v1, RV, own_off h.said O3 (fun b e k => ?_), own_off ho O2 (fun b e k => own_ne ho RU (by decide) (k ▸ e)), ?_, h.kr, h.ks, fun b e => h.kn b (ha ▸ e), h.kf, fun b hb => ⟨(h.low b hb).1, Nat.lt_of_lt_of_le (h.low b hb).2 O3.size⟩⟩, ⟨O3.os, O3.tape, O3.output, O3.size, fun j hj hn => O3.block j hj ?_⟩, fun b hb => .inl hb⟩
  · rcases k with k | k
    · exact hne.2.2 b e k
    · exact hne.1 (k ▸ e)
  · exact h.free.grow (r := r) (fun cs b hb e => by subst e; exact BlkW.ne_ hb h.at_ (by decide) rfl) O3 (.inl ha)
  · rintro (k | k)
    · exact hn (h.kn j k)
    · subst k; exact hn h.kr
end
end Go.Proofs.YtjilhncnbkaebaaGreatDoor
