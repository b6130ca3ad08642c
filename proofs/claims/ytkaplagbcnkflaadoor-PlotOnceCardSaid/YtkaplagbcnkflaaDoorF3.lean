/- plot: blame, give, take. A template (made by gen_XF3.py). -/
import Derived.Test.YtkaplagbcnkflaaDoorF2
namespace Go.Proofs.YtkaplagbcnkflaaDoor
open Go.RowKit Go.Extern.Stop Go.Stop Go.Extern Go.Sort
section
variable {w : World} {E : Flt → Addr} {B p bs bb : Nat} {v fv : Value} {t : St}
/-- A plot beside a box for a reply. -/
def RB (w : World) (E : Flt → Addr) (B p bs bb : Nat) (v fv : Value) (t : St) (x : Nat) : Prop := Rep w E B p bs bb v fv t ∧ ∃ cs, BlkW w x 39 cs
theorem RB.set {x : Nat} (h : RB w E B p bs bb v fv t x) (o : Nat) (u : Value) : RB (w.setCell ⟨x, o, none⟩ u) E B p bs bb v fv t x := by
  obtain ⟨h, cs, hx⟩ := h
  obtain ⟨c1, b1, _⟩ := h.slots.blk
  obtain ⟨c2, b2, _⟩ := h.brd.blk
  exact ⟨h.other x (grown_set w x o u) (hx.ne_ h.hp (by decide)) (hx.ne_ b1 (by decide)) (hx.ne_ b2 (by decide)) (own_ne h.free hx (by decide)) (fun cs' hc => BlkW.ne_ hc hx (by decide) rfl), _, hx.set o u⟩
theorem RB.below {w' : World} {x : Nat} (h : RB w E B p bs bb v fv t x) (hb : Below w.heap.size w w') : RB w' E B p bs bb v fv t x := by
  obtain ⟨h, cs, hx⟩ := h
  exact ⟨h.keep hb, cs, hx.below hb⟩
/-- What blame answers. -/
def BlameD (k : Int) : Wd := if k = 1 ∨ k = 3 then nw (-1) else zw
theorem size_setCell (w : World) (a : Addr) (u : Value) : (w.setCell a u).heap.size = w.heap.size := by simp [World.setCell]
theorem blk_second (W : World) (a : Obj) (n : Nat) (T : TypeId) (cs : Array Value) (hn : W.heap.size = n) : BlkW ((W.alloc a).alloc (.cells cs T)) (n + 1) T cs := by
  subst hn
  have := BlkW.new (W.alloc a) T cs
  rwa [World.size_alloc] at this
def BlamePost (w : World) (E : Flt → Addr) (B p bs bb : Nat) (v : Value) (d : Wd) (t : St) (e : Ending) (w' : World) : Prop :=
  ∃ fv', e = .returned (rv d false) ∧ Rep w' E B p bs bb v fv' t ∧ Off (Mine p bs bb v) w w'
theorem Rep.blamed (h : Rep w E B p bs bb v fv t) (hf : t.fault = none) (a b : Obj) (x : Flt) :
    Rep ((((w.setCell ⟨p, 5, none⟩ (.iface 73 (.pointer (some ⟨w.heap.size + 1 + 1, 0, none⟩)))).alloc a).alloc b).alloc (.cells #[.int .i64 (t.steps : Int), .iface 121 (.pointer (some (E x)))] 76))
      E B p bs bb v (.iface 73 (.pointer (some ⟨w.heap.size + 1 + 1, 0, none⟩))) (t.blame x) := by
  have h3 := ((h.alloc a).alloc b).alloc (.cells #[.int .i64 (t.steps : Int), .iface 121 (.pointer (some (E x)))] 76)
  have hz := h.hp.lt
  have e := h3.own 5 (.iface 73 (.pointer (some ⟨w.heap.size + 1 + 1, 0, none⟩))) (v' := v) (fv' := .iface 73 (.pointer (some ⟨w.heap.size + 1 + 1, 0, none⟩))) (t' := t.blame x) rfl ⟨rfl, rfl, rfl, rfl⟩ h3.free (by
    unfold St.blame
    rw [hf]
    have := h.base_lt
    have hn := BlkW.new ((w.alloc a).alloc b) 76 #[.int .i64 (t.steps : Int), .iface 121 (.pointer (some (E x)))]
    rw [World.size_alloc, World.size_alloc] at hn
    exact ⟨w.heap.size + 1 + 1, rfl, by omega, hn⟩)
  rw [World.setCell_alloc_past _ _ _ _ (by rw [World.size_alloc, World.size_alloc]; omega), World.setCell_alloc_past _ _ _ _ (by rw [World.size_alloc]; omega), World.setCell_alloc_past _ _ _ _ hz] at e
  exact e
theorem Off.blamed {K : Nat → Prop} (hK : K p) (u : Value) (a b c : Obj) : Off K w ((((w.setCell ⟨p, 5, none⟩ u).alloc a).alloc b).alloc c) := ((((Off.refl K w).set (.inl hK) 5 u).alloc a).alloc b).alloc c
theorem blame_kept (h : Rep w E B p bs bb v fv t) {y : Nat × Flt} (hf : t.fault = some y) (x : Flt) (a b : Obj) : Rep ((w.alloc a).alloc b) E B p bs bb v fv (t.blame x) := by
  have e : t.blame x = t := by unfold St.blame; rw [hf]; simp only []; cases t; simp at hf; simp [hf]
  rw [e]; exact (h.alloc a).alloc b
theorem nw_rv : rv (nw (-1)) false = .agg #[.int .i64 0, .int .i64 0, .int .i64 0, .int .i64 (-1), .bool false, .bool false] := rfl
theorem zw_rv (ok : Bool) : rv zw ok = .agg #[.int .i64 0, .int .i64 0, .int .i64 0, .int .i64 0, .bool false, .bool ok] := rfl
set_option maxHeartbeats 1000000 in
theorem blame_first (h : Rep w E B p bs bb v fv t) (hf : t.fault = none) (x : Flt) (a : Ac) :
    Calls Tryd.prog 21 #[.pointer (some ⟨p, 0, none⟩), av a, .iface 121 (.pointer (some (E x)))] w (BlamePost w E B p bs bb v (BlameD a.kind) (t.blame x)) := by
  have HR := Lib.hid h
  have HF := Lib.hid hf
  have c3 := h.pcells.2.2.2.1
  have c5 := h.pcells.2.2.2.2.2
  have f5 := h.hp.frozen 5
  have hfv : fv = .nilIface := by have := h.fault; rw [hf] at this; exact this
  rw [hfv] at c5
  have hz := h.hp.lt
  have hz1 : p < w.heap.size + 1 := by omega
  have hz2 : p < w.heap.size + 1 + 1 := by omega
  have hz3 : p < w.heap.size + 1 + 1 + 1 := by omega
  clear hf h hfv
  obtain ⟨k, s, g, f, d, d'⟩ := a
  unfold av
  dsimp only
  by_cases k1 : k = 1
  · subst k1
    rw [show BlameD 1 = nw (-1) by rfl]
    unfold BlamePost
    rw [nw_rv]
    go_enter Tryd.func21, Tryd.ntmps21
    go_wp2_with fail
    refine (At_some _ _ _ _).mono ?_
    rintro e w1 ⟨rfl, rfl⟩
    go_wp2_with fail
    refine (Num_any _ _).mono ?_
    rintro e w1 ⟨rfl, hb⟩
    have HRB := Lib.hid (RB.below (x := w.heap.size + 1) ⟨HR.out.blamed HF.out _ _ x, _, (blk_second _ _ _ _ _ (by simp [World.setCell])).alloc _⟩ hb)
    have HO := Lib.hid ((Off.blamed (w := w) (K := Mine p bs bb v) (.inl rfl) _ _ _ _).then hb)
    obtain ⟨hc, hf⟩ := bcell hb
    have hzz := hb.size
    simp only [World.size_alloc, size_setCell] at hc hf hzz
    have hx0 : w.heap.size < w1.heap.size := by omega
    have hx1 : w.heap.size + 1 < w1.heap.size := by omega
    have hx2 : w.heap.size + 1 < w.heap.size + 1 + 1 := by omega
    have hx3 : w.heap.size + 1 < w.heap.size + 1 + 1 + 1 := by omega
    clear hb hzz
    go_wp2
    refine bodyPost_ret (v := .agg #[.int .i64 0, .int .i64 0, .int .i64 0, .int .i64 (-1), .bool false, .bool false]) (by simp [results, Tryd.results21, go_sem, hc]) rfl ⟨_, rfl, ((((((HRB.out.set 0 _).set 1 _).set 2 _).set 3 _).set 4 _).set 5 _).1, (((((HO.out.set (.inr (Nat.le_succ _)) 0 _).set (.inr (Nat.le_succ _)) 1 _).set (.inr (Nat.le_succ _)) 2 _).set (.inr (Nat.le_succ _)) 3 _).set (.inr (Nat.le_succ _)) 4 _).set (.inr (Nat.le_succ _)) 5 _⟩
  · by_cases k3 : k = 3
    · subst k3
      clear k1
      rw [show BlameD 3 = nw (-1) by rfl]
      unfold BlamePost
      rw [nw_rv]
      go_enter Tryd.func21, Tryd.ntmps21
      go_wp2_with fail
      refine (At_some _ _ _ _).mono ?_
      rintro e w1 ⟨rfl, rfl⟩
      go_wp2_with fail
      refine (Num_any _ _).mono ?_
      rintro e w1 ⟨rfl, hb⟩
      have HRB := Lib.hid (RB.below (x := w.heap.size + 1) ⟨HR.out.blamed HF.out _ _ x, _, (blk_second _ _ _ _ _ (by simp [World.setCell])).alloc _⟩ hb)
      have HO := Lib.hid ((Off.blamed (w := w) (K := Mine p bs bb v) (.inl rfl) _ _ _ _).then hb)
      obtain ⟨hc, hf⟩ := bcell hb
      have hzz := hb.size
      simp only [World.size_alloc, size_setCell] at hc hf hzz
      have hx0 : w.heap.size < w1.heap.size := by omega
      have hx1 : w.heap.size + 1 < w1.heap.size := by omega
      have hx2 : w.heap.size + 1 < w.heap.size + 1 + 1 := by omega
      have hx3 : w.heap.size + 1 < w.heap.size + 1 + 1 + 1 := by omega
      clear hb hzz
      go_wp2
      refine bodyPost_ret (v := .agg #[.int .i64 0, .int .i64 0, .int .i64 0, .int .i64 (-1), .bool false, .bool false]) (by simp [results, Tryd.results21, go_sem, hc]) rfl ⟨_, rfl, ((((((HRB.out.set 0 _).set 1 _).set 2 _).set 3 _).set 4 _).set 5 _).1, (((((HO.out.set (.inr (Nat.le_succ _)) 0 _).set (.inr (Nat.le_succ _)) 1 _).set (.inr (Nat.le_succ _)) 2 _).set (.inr (Nat.le_succ _)) 3 _).set (.inr (Nat.le_succ _)) 4 _).set (.inr (Nat.le_succ _)) 5 _⟩
    · rw [show BlameD k = zw by unfold BlameD; rw [if_neg (by omega)]]
      have e1 : (k == 1) = false := by simpa using k1
      have e3 : (k == 3) = false := by simpa using k3
      clear k1 k3
      unfold BlamePost
      rw [zw_rv]
      go_enter Tryd.func21, Tryd.ntmps21
      go_wp2_with fail
      refine (At_some _ _ _ _).mono ?_
      rintro e w1 ⟨rfl, rfl⟩
      go_wp2
      refine bodyPost_ret (v := .agg #[.int .i64 0, .int .i64 0, .int .i64 0, .int .i64 0, .bool false, .bool false]) (by simp [results, Tryd.results21, go_sem]) rfl ⟨_, rfl, HR.out.blamed HF.out _ _ x, Off.blamed (.inl rfl) _ _ _ _⟩
set_option maxHeartbeats 1000000 in
theorem blame_more (h : Rep w E B p bs bb v fv t) {y : Nat × Flt} (hf : t.fault = some y) (x : Flt) (a : Ac) :
    Calls Tryd.prog 21 #[.pointer (some ⟨p, 0, none⟩), av a, .iface 121 (.pointer (some (E x)))] w (BlamePost w E B p bs bb v (BlameD a.kind) (t.blame x)) := by
  have HR := Lib.hid h
  have HF := Lib.hid hf
  have c3 := h.pcells.2.2.2.1
  have c5 := h.pcells.2.2.2.2.2
  have f5 := h.hp.frozen 5
  have hfv : ∃ b, fv = .iface 73 (.pointer (some ⟨b, 0, none⟩)) := by
    have := h.fault
    rw [hf] at this
    obtain ⟨k, z⟩ := y
    obtain ⟨b, hb, _⟩ := this
    exact ⟨b, hb⟩
  obtain ⟨bf, rfl⟩ := hfv
  have hz := h.hp.lt
  have hz1 : p < w.heap.size + 1 := by omega
  have hz2 : p < w.heap.size + 1 + 1 := by omega
  have hz3 : p < w.heap.size + 1 + 1 + 1 := by omega
  clear hf h
  obtain ⟨k, s, g, f, d, d'⟩ := a
  unfold av
  dsimp only
  by_cases k1 : k = 1
  · subst k1
    rw [show BlameD 1 = nw (-1) by rfl]
    unfold BlamePost
    rw [nw_rv]
    go_enter Tryd.func21, Tryd.ntmps21
    go_wp2_with fail
    refine (Num_any _ _).mono ?_
    rintro e w1 ⟨rfl, hb⟩
    have HRB := Lib.hid (RB.below (x := w.heap.size + 1) ⟨blame_kept HR.out HF.out x _ _, _, blk_second _ _ _ _ _ rfl⟩ hb)
    have HO := Lib.hid ((((Off.refl (Mine p bs bb v) w).alloc _).alloc _).then hb)
    obtain ⟨hc, hf⟩ := bcell hb
    have hzz := hb.size
    simp only [World.size_alloc] at hc hf hzz
    have hx0 : w.heap.size < w1.heap.size := by omega
    have hx1 : w.heap.size + 1 < w1.heap.size := by omega
    have hx2 : w.heap.size + 1 < w.heap.size + 1 + 1 := by omega
    have hx3 : w.heap.size + 1 < w.heap.size + 1 + 1 + 1 := by omega
    clear hb hzz
    go_wp2
    refine bodyPost_ret (v := .agg #[.int .i64 0, .int .i64 0, .int .i64 0, .int .i64 (-1), .bool false, .bool false]) (by simp [results, Tryd.results21, go_sem, hc]) rfl ⟨_, rfl, ((((((HRB.out.set 0 _).set 1 _).set 2 _).set 3 _).set 4 _).set 5 _).1, (((((HO.out.set (.inr (Nat.le_succ _)) 0 _).set (.inr (Nat.le_succ _)) 1 _).set (.inr (Nat.le_succ _)) 2 _).set (.inr (Nat.le_succ _)) 3 _).set (.inr (Nat.le_succ _)) 4 _).set (.inr (Nat.le_succ _)) 5 _⟩
  · by_cases k3 : k = 3
    · subst k3
      clear k1
      rw [show BlameD 3 = nw (-1) by rfl]
      unfold BlamePost
      rw [nw_rv]
      go_enter Tryd.func21, Tryd.ntmps21
      go_wp2_with fail
      refine (Num_any _ _).mono ?_
      rintro e w1 ⟨rfl, hb⟩
      have HRB := Lib.hid (RB.below (x := w.heap.size + 1) ⟨blame_kept HR.out HF.out x _ _, _, blk_second _ _ _ _ _ rfl⟩ hb)
      have HO := Lib.hid ((((Off.refl (Mine p bs bb v) w).alloc _).alloc _).then hb)
      obtain ⟨hc, hf⟩ := bcell hb
      have hzz := hb.size
      simp only [World.size_alloc] at hc hf hzz
      have hx0 : w.heap.size < w1.heap.size := by omega
      have hx1 : w.heap.size + 1 < w1.heap.size := by omega
      have hx2 : w.heap.size + 1 < w.heap.size + 1 + 1 := by omega
      have hx3 : w.heap.size + 1 < w.heap.size + 1 + 1 + 1 := by omega
      clear hb hzz
      go_wp2
      refine bodyPost_ret (v := .agg #[.int .i64 0, .int .i64 0, .int .i64 0, .int .i64 (-1), .bool false, .bool false]) (by simp [results, Tryd.results21, go_sem, hc]) rfl ⟨_, rfl, ((((((HRB.out.set 0 _).set 1 _).set 2 _).set 3 _).set 4 _).set 5 _).1, (((((HO.out.set (.inr (Nat.le_succ _)) 0 _).set (.inr (Nat.le_succ _)) 1 _).set (.inr (Nat.le_succ _)) 2 _).set (.inr (Nat.le_succ _)) 3 _).set (.inr (Nat.le_succ _)) 4 _).set (.inr (Nat.le_succ _)) 5 _⟩
    · rw [show BlameD k = zw by unfold BlameD; rw [if_neg (by omega)]]
      have e1 : (k == 1) = false := by simpa using k1
      have e3 : (k == 3) = false := by simpa using k3
      clear k1 k3
      unfold BlamePost
      rw [zw_rv]
      go_enter Tryd.func21, Tryd.ntmps21
      go_wp2_with fail
      refine bodyPost_ret (v := .agg #[.int .i64 0, .int .i64 0, .int .i64 0, .int .i64 0, .bool false, .bool false]) (by simp [results, Tryd.results21, go_sem]) rfl ⟨_, rfl, blame_kept HR.out HF.out x _ _, ((Off.refl _ _).alloc _).alloc _⟩
theorem blame_any (h : Rep w E B p bs bb v fv t) (x : Flt) (a : Ac) :
    Calls Tryd.prog 21 #[.pointer (some ⟨p, 0, none⟩), av a, .iface 121 (.pointer (some (E x)))] w (BlamePost w E B p bs bb v (BlameD a.kind) (t.blame x)) := by
  cases hf : t.fault with
  | none => exact blame_first h hf x a
  | some y => exact blame_more h hf x a
end
end Go.Proofs.YtkaplagbcnkflaaDoor
