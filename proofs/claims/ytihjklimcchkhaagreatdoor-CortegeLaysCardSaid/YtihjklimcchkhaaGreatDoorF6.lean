/- plot: Do. A template (made by gen_XF6.py). -/
import Derived.Test.YtihjklimcchkhaaGreatDoorFA
namespace Go.Proofs.YtihjklimcchkhaaGreatDoor
open Go.RowKit Go.Extern.Stop Go.Stop Go.Extern Go.Sort
section
variable {w W w' : World} {E : Flt → Addr} {B p bs bb : Nat} {v fv : Value} {t : St}
theorem below_sets {n : Nat} {X : World} (b : Nat) (vs : List Value) : ∀ o, Below n (w.setCells b o vs) X → w.heap.size = (w.setCells b o vs).heap.size := by
  intro o _
  induction vs generalizing o w with
  | nil => rfl
  | cons v r ih => rw [World.setCells, ← ih (o + 1) (w := w.setCell ⟨b, o, none⟩ v) (by assumption), size_setCell]
theorem touch_any (h : Rep w E B p bs bb v fv t) {l : Loc} (hl : l.In t) (a : Ac) (hk : a.kind = 1 ∨ a.kind = 2 ∨ a.kind = 3) :
    Calls Tryz.prog 67 #[pv (some (l.at bs bb)), av a] w (GivePost w E B p bs bb v (t.touch l a)) := by
  have hw := h.word hl
  have ht := h.there hl
  have stored : ∀ {w' : World} (d : Wd), Below w.heap.size (w.setCells (l.at bs bb).1 (l.at bs bb).2 (wc d)) w' → Rep w' E B p bs bb v fv (t.write l d) ∧ Off (Mine p bs bb v) w w' := by
    intro w' d hb
    have e := below_sets _ _ _ hb
    rw [e] at hb
    exact ⟨(h.write hl d).keep hb, ((Off.refl (Mine p bs bb v) w).sets (b := (l.at bs bb).1) (.inl Rep.loc_mine) (wc d) _).then hb⟩
  unfold St.touch
  rcases hk with hk | hk | hk
  · rw [if_pos hk]
    exact (touch_load _ _ _ a hk hw).mono fun e w' ⟨he, hb⟩ => ⟨v, fv, he, h.keep hb, Off.of_below hb, .inl rfl⟩
  · rw [if_neg (by omega), if_pos hk]
    exact (touch_store _ _ _ a hk hw ht).mono fun e w' ⟨he, hb⟩ => ⟨v, fv, he, (stored _ hb).1, (stored _ hb).2, .inl rfl⟩
  · rw [if_neg (by omega), if_neg (by omega)]
    by_cases hs : (t.read l).same a.old = true
    · rw [if_pos hs]
      exact (touch_swap _ _ _ a hk hs hw ht).mono fun e w' ⟨he, hb⟩ => ⟨v, fv, he, (stored _ hb).1, (stored _ hb).2, .inl rfl⟩
    · rw [if_neg hs]
      exact (touch_other _ _ _ a hk (by simpa using hs) hw).mono fun e w' ⟨he, hb⟩ => ⟨v, fv, he, h.keep hb, Off.of_below hb, .inl rfl⟩

/-- The cells of an access. -/
def acs (a : Ac) : Array Value := #[.int .i64 a.kind, .int .i64 a.s, .int .i64 a.g, .int .i64 a.f, .int .i64 a.old.slot, .int .i64 a.old.gen, .int .i64 a.old.tag, .int .i64 a.old.num, .bool a.old.mark, .int .i64 a.new.slot, .int .i64 a.new.gen, .int .i64 a.new.tag, .int .i64 a.new.num, .bool a.new.mark]
/-- In the midst of Do: the plot, the access in its box, the reply's box. -/
structure DoSt (w W : World) (E : Flt → Addr) (B p bs bb : Nat) (v fv : Value) (t : St) (a : Ac) : Prop where
  rep : Rep W E B p bs bb v fv t
  off : Off (Mine p bs bb v) w W
  acc : BlkW W w.heap.size 67 (acs a)
  res : BlkW W (w.heap.size + 1) 63 #[.int .i64 0, .int .i64 0, .int .i64 0, .int .i64 0, .bool false, .bool false]
  env : Env W E
theorem DoSt.start (h : Rep w E B p bs bb v fv t) (L : Env w E) (a : Ac) : DoSt w ((w.alloc (.cells (acs a) 67)).alloc (.cells #[.int .i64 0, .int .i64 0, .int .i64 0, .int .i64 0, .bool false, .bool false] 63)) E B p bs bb v fv t a :=
  ⟨(h.alloc _).alloc _, ((Off.refl _ _).alloc _).alloc _, (BlkW.new _ _ _).alloc _, blk_second _ _ _ _ _ rfl, L.keep (below_alloc (below_alloc (Below.refl _ _) _) _)⟩
theorem DoSt.below {a : Ac} (h : DoSt w W E B p bs bb v fv t a) (hb : Below W.heap.size W w') : DoSt w w' E B p bs bb v fv t a :=
  ⟨h.rep.keep hb, h.off.then hb, h.acc.below hb, h.res.below hb, h.env.keep hb⟩
theorem DoSt.steps {a : Ac} (h : DoSt w W E B p bs bb v fv t a) (hB : 9 ≤ B) (hz : p < w.heap.size) : DoSt w (W.setCell ⟨p, 3, none⟩ (.int .i64 ((t.steps : Int) + 1))) E B p bs bb v fv { t with steps := t.steps + 1 } a :=
  ⟨h.rep.own 3 _ (t' := { t with steps := t.steps + 1 }) rfl ⟨rfl, rfl, rfl, rfl⟩ h.rep.free h.rep.fault, h.off.set (.inl (.inl rfl)) 3 _, h.acc.far (by omega) _, h.res.far (by omega) _, h.env.below (Below.setCell (p := ⟨p, 3, none⟩) (Below.refl B W) h.rep.bp _) hB⟩
theorem DoSt.cells {a : Ac} (h : DoSt w W E B p bs bb v fv t a) : ∀ i u, (acs a)[i]? = some u → W.cell? ⟨w.heap.size, i, none⟩ = some u := fun i _ hu => (h.acc.cell i).trans hu
theorem DoSt.c14 {a : Ac} (h : DoSt w W E B p bs bb v fv t a) : W.cell? ⟨w.heap.size, 0, none⟩ = some (.int .i64 a.kind) ∧ W.cell? ⟨w.heap.size, 1, none⟩ = some (.int .i64 a.s) ∧ W.cell? ⟨w.heap.size, 2, none⟩ = some (.int .i64 a.g) ∧ W.cell? ⟨w.heap.size, 3, none⟩ = some (.int .i64 a.f) ∧ W.cell? ⟨w.heap.size, 4, none⟩ = some (.int .i64 a.old.slot) ∧ W.cell? ⟨w.heap.size, 5, none⟩ = some (.int .i64 a.old.gen) ∧ W.cell? ⟨w.heap.size, 6, none⟩ = some (.int .i64 a.old.tag) ∧ W.cell? ⟨w.heap.size, 7, none⟩ = some (.int .i64 a.old.num) ∧ W.cell? ⟨w.heap.size, 8, none⟩ = some (.bool a.old.mark) ∧ W.cell? ⟨w.heap.size, 9, none⟩ = some (.int .i64 a.new.slot) ∧ W.cell? ⟨w.heap.size, 10, none⟩ = some (.int .i64 a.new.gen) ∧ W.cell? ⟨w.heap.size, 11, none⟩ = some (.int .i64 a.new.tag) ∧ W.cell? ⟨w.heap.size, 12, none⟩ = some (.int .i64 a.new.num) ∧ W.cell? ⟨w.heap.size, 13, none⟩ = some (.bool a.new.mark) :=
  ⟨h.cells 0 _ rfl, h.cells 1 _ rfl, h.cells 2 _ rfl, h.cells 3 _ rfl, h.cells 4 _ rfl, h.cells 5 _ rfl, h.cells 6 _ rfl, h.cells 7 _ rfl, h.cells 8 _ rfl, h.cells 9 _ rfl, h.cells 10 _ rfl, h.cells 11 _ rfl, h.cells 12 _ rfl, h.cells 13 _ rfl⟩
/-- Behind the call that acts. -/
theorem DoSt.after {a : Ac} {v' fv' : Value} {t' : St} (h : DoSt w W E B p bs bb v fv t a) (hlt : p < w.heap.size ∧ bs < w.heap.size ∧ bb < w.heap.size ∧ ∀ k, v.ownBlock = some k → k < w.heap.size) (hr : Rep w' E B p bs bb v' fv' t') (ho : Off (Mine p bs bb v) W w') :
    RB w' E B p bs bb v' fv' t' (w.heap.size + 1) ∧ Off (Mine p bs bb v) w w' ∧ BlkW w' (w.heap.size + 1) 63 #[.int .i64 0, .int .i64 0, .int .i64 0, .int .i64 0, .bool false, .bool false] ∧ BlkW w' w.heap.size 67 (acs a) := by
  have hn : ∀ j, w.heap.size ≤ j → ¬ Mine p bs bb v j := by
    rintro j hj (rfl | rfl | rfl | e)
    · omega
    · omega
    · omega
    · have := hlt.2.2.2 j e; omega
  have hb := ho.blk h.res (hn _ (Nat.le_succ _))
  exact ⟨⟨hr, _, hb⟩, h.off.trans ho (fun _ _ e => e), hb, ho.blk h.acc (hn _ (Nat.le_refl _))⟩
theorem give_all (h : Rep w E B p bs bb v fv t) (o : t.Ok) (hm : t.made < 1000000) (birth : Int) :
    Calls Tryz.prog 65 #[.pointer (some ⟨p, 0, none⟩), .int .i64 birth] w (GivePost w E B p bs bb v (t.give birth)) := by
  cases hf : t.free with
  | nil =>
    have e : t.give birth = (t, zw, false) := by unfold St.give; rw [hf]
    rw [e]
    exact give_none h hf birth
  | cons i r => exact give_some h o hm i r hf birth
def DoPost (w : World) (E : Flt → Addr) (B p bs bb : Nat) (v : Value) (r : St × Wd × Bool) (e : Ending) (w' : World) : Prop :=
  ∃ v' fv', e = .returned (.tuple #[rv r.2.1 r.2.2, .nilIface]) ∧ Rep w' E B p bs bb v' fv' r.1 ∧ Off (Mine p bs bb v) w w' ∧ (v'.ownBlock = v.ownBlock ∨ ∀ k, v'.ownBlock = some k → w.heap.size ≤ k)
set_option maxRecDepth 100000 in
set_option maxHeartbeats 4000000 in
theorem do_wrong (h : Rep w E B p bs bb v fv t) (L : Env w E) (o : t.Ok) (hB : 9 ≤ B) (ht : t.steps < 900000) (k s g f : Int) (d d' : Wd) (x : Flt) (hc : t.can ⟨k, s, g, f, d, d'⟩ = true) (hw : ({ t with steps := t.steps + 1 } : St).wrong ⟨k, s, g, f, d, d'⟩ = some x) :
    Calls Tryz.prog 26 #[.pointer (some ⟨p, 0, none⟩), av ⟨k, s, g, f, d, d'⟩] w (DoPost w E B p bs bb v (({ t with steps := t.steps + 1 } : St).blame x, BlameD k, false)) := by
  have ok1 := Lib.hid (show ({ t with steps := t.steps + 1 } : St).Ok from ⟨o.lt, o.nodup, o.mem, o.gen, Nat.le_succ_of_le o.made, o.size, o.cells⟩)
  have HR := Lib.hid h
  have HL := Lib.hid L
  have HO := Lib.hid o
  have hlt := Lib.hid (show p < w.heap.size ∧ bs < w.heap.size ∧ bb < w.heap.size ∧ ∀ k, v.ownBlock = some k → k < w.heap.size from ⟨h.lt.1, h.lt.2.1, h.lt.2.2, fun k e => (h.free.lt k e).2⟩)
  have D0 := Lib.hid (DoSt.start h L ⟨k, s, g, f, d, d'⟩)
  have HC := Lib.hid (fun W (H : Rep W E B p bs bb v fv t) => can_any H o ⟨k, s, g, f, d, d'⟩)
  rw [hc] at HC
  have hz := h.lt.1
  have hs3 : (t.steps : Int) < 1000000 := by omega
  clear h L o hc
  unfold av
  dsimp only
  go_enter Tryz.func26, Tryz.ntmps26
  go_wp2_with fail
  refine (HC.out _ D0.out.rep).mono ?_
  rintro e w1 ⟨rfl, hb⟩
  have D1 := Lib.hid (D0.out.below hb)
  clear hb
  have c3 := D1.out.rep.pcells.2.2.2.1
  have f3 := D1.out.rep.hp.frozen 3
  obtain ⟨b0, b1, b2, b3, b4, b5, b6, b7, b8, b9, b10, b11, b12, b13⟩ := D1.out.c14
  try dsimp only at b0 b1 b2 b3 b4 b5 b6 b7 b8 b9 b10 b11 b12 b13
  have hzn : ¬ w.heap.size = p := by omega
  have hzn2 : ¬ p = w.heap.size := by omega
  go_wp2_with fail
  have D2 := Lib.hid (D1.out.steps hB hz)
  have HW := Lib.hid (wrong_any D2.out.rep D2.out.env ok1.out ⟨k, s, g, f, d, d'⟩)
  rw [hw] at HW
  refine HW.out.mono ?_
  rintro e w2 ⟨rfl, hb⟩
  have D3 := Lib.hid (D2.out.below hb)
  clear hb HW
  clear b0 b1 b2 b3 b4 b5 b6 b7 b8 b9 b10 b11 b12 b13 c3 f3
  obtain ⟨b0, b1, b2, b3, b4, b5, b6, b7, b8, b9, b10, b11, b12, b13⟩ := D3.out.c14
  try dsimp only at b0 b1 b2 b3 b4 b5 b6 b7 b8 b9 b10 b11 b12 b13
  unfold ev
  go_wp2_with fail
  refine (blame_any D3.out.rep x ⟨k, s, g, f, d, d'⟩).mono ?_
  rintro e w3 ⟨fv', rfl, R3, O3⟩
  obtain ⟨K1, K2, K3, _⟩ := D3.out.after hlt.out R3 O3
  have K1 := Lib.hid K1
  have K2 := Lib.hid K2
  clear R3 O3
  dsimp only
  obtain ⟨bd, hbd⟩ : ∃ bd, bd = BlameD k := ⟨_, rfl⟩
  rw [← hbd]
  have HBD := Lib.hid hbd
  clear hbd
  clear b0 b1 b2 b3 b4 b5 b6 b7 b8 b9 b10 b11 b12 b13
  have a0 := K3.cell 0
  have a1 := K3.cell 1
  have a2 := K3.cell 2
  have a3 := K3.cell 3
  have a4 := K3.cell 4
  have a5 := K3.cell 5
  have af := fun x => K3.frozen x
  simp only [List.getElem?_toArray, List.getElem?_cons_succ, List.getElem?_cons_zero] at a0 a1 a2 a3 a4 a5
  clear K3
  unfold rv
  go_wp2
  refine bodyPost_ret (v := .tuple #[rv bd false, .nilIface]) (by simp [results, Tryz.results26, go_sem, rv, a0, a1, a2, a3, a4, a5]) rfl ?_
  obtain rfl := HBD.out
  refine ⟨_, _, rfl, ((((((K1.out.set 0 _).set 1 _).set 2 _).set 3 _).set 4 _).set 5 _).1, ((((((K2.out.set (.inr (Nat.le_succ _)) 0 _).set (.inr (Nat.le_succ _)) 1 _).set (.inr (Nat.le_succ _)) 2 _).set (.inr (Nat.le_succ _)) 3 _).set (.inr (Nat.le_succ _)) 4 _).set (.inr (Nat.le_succ _)) 5 _), .inl rfl⟩
set_option maxRecDepth 100000 in
set_option maxHeartbeats 4000000 in
theorem do_new (h : Rep w E B p bs bb v fv t) (L : Env w E) (o : t.Ok) (hB : 9 ≤ B) (ht : t.steps < 900000) (s g f : Int) (d d' : Wd) (hc : t.can ⟨4, s, g, f, d, d'⟩ = true) :
    Calls Tryz.prog 26 #[.pointer (some ⟨p, 0, none⟩), av ⟨4, s, g, f, d, d'⟩] w (DoPost w E B p bs bb v (({ t with steps := t.steps + 1 } : St).give d'.num)) := by
  have ok1 := Lib.hid (show ({ t with steps := t.steps + 1 } : St).Ok from ⟨o.lt, o.nodup, o.mem, o.gen, Nat.le_succ_of_le o.made, o.size, o.cells⟩)
  have hw : ({ t with steps := t.steps + 1 } : St).wrong ⟨4, s, g, f, d, d'⟩ = none := by unfold St.wrong; rw [if_pos rfl]
  have HR := Lib.hid h
  have HL := Lib.hid L
  have HO := Lib.hid o
  have hlt := Lib.hid (show p < w.heap.size ∧ bs < w.heap.size ∧ bb < w.heap.size ∧ ∀ k, v.ownBlock = some k → k < w.heap.size from ⟨h.lt.1, h.lt.2.1, h.lt.2.2, fun k e => (h.free.lt k e).2⟩)
  have D0 := Lib.hid (DoSt.start h L ⟨4, s, g, f, d, d'⟩)
  have HC := Lib.hid (fun W (H : Rep W E B p bs bb v fv t) => can_any H o ⟨4, s, g, f, d, d'⟩)
  rw [hc] at HC
  have hz := h.lt.1
  have hs3 : (t.steps : Int) < 1000000 := by omega
  clear h L o hc
  unfold av
  dsimp only
  go_enter Tryz.func26, Tryz.ntmps26
  go_wp2_with fail
  refine (HC.out _ D0.out.rep).mono ?_
  rintro e w1 ⟨rfl, hb⟩
  have D1 := Lib.hid (D0.out.below hb)
  clear hb
  have c3 := D1.out.rep.pcells.2.2.2.1
  have f3 := D1.out.rep.hp.frozen 3
  obtain ⟨b0, b1, b2, b3, b4, b5, b6, b7, b8, b9, b10, b11, b12, b13⟩ := D1.out.c14
  try dsimp only at b0 b1 b2 b3 b4 b5 b6 b7 b8 b9 b10 b11 b12 b13
  have hzn : ¬ w.heap.size = p := by omega
  have hzn2 : ¬ p = w.heap.size := by omega
  go_wp2_with fail
  have D2 := Lib.hid (D1.out.steps hB hz)
  have HW := Lib.hid (wrong_any D2.out.rep D2.out.env ok1.out ⟨4, s, g, f, d, d'⟩)
  rw [hw] at HW
  refine HW.out.mono ?_
  rintro e w2 ⟨rfl, hb⟩
  have D3 := Lib.hid (D2.out.below hb)
  clear hb HW
  clear b0 b1 b2 b3 b4 b5 b6 b7 b8 b9 b10 b11 b12 b13 c3 f3
  obtain ⟨b0, b1, b2, b3, b4, b5, b6, b7, b8, b9, b10, b11, b12, b13⟩ := D3.out.c14
  try dsimp only at b0 b1 b2 b3 b4 b5 b6 b7 b8 b9 b10 b11 b12 b13
  unfold ev
  go_wp2_with fail
  refine (give_all D3.out.rep ok1.out (Nat.lt_of_le_of_lt (Nat.le_trans ok1.out.made (Nat.succ_le_of_lt ht)) (by omega)) d'.num).mono ?_
  rintro e w3 ⟨v', fv', rfl, R3, O3, K4⟩
  obtain ⟨K1, K2, K3, _⟩ := D3.out.after hlt.out R3 O3
  have K1 := Lib.hid K1
  have K2 := Lib.hid K2
  have K4 := Lib.hid K4
  clear R3 O3
  obtain ⟨bd, hbd⟩ : ∃ bd, bd = (({ t with steps := t.steps + 1 } : St).give d'.num).2.1 := ⟨_, rfl⟩
  obtain ⟨ok, hok⟩ : ∃ ok, ok = (({ t with steps := t.steps + 1 } : St).give d'.num).2.2 := ⟨_, rfl⟩
  rw [← hbd, ← hok]
  have HBD := Lib.hid hbd
  have HOK := Lib.hid hok
  clear hbd hok
  clear b0 b1 b2 b3 b4 b5 b6 b7 b8 b9 b10 b11 b12 b13
  have a0 := K3.cell 0
  have a1 := K3.cell 1
  have a2 := K3.cell 2
  have a3 := K3.cell 3
  have a4 := K3.cell 4
  have a5 := K3.cell 5
  have af := fun x => K3.frozen x
  simp only [List.getElem?_toArray, List.getElem?_cons_succ, List.getElem?_cons_zero] at a0 a1 a2 a3 a4 a5
  clear K3
  unfold rv
  go_wp2
  refine bodyPost_ret (v := .tuple #[rv bd ok, .nilIface]) (by simp [results, Tryz.results26, go_sem, rv, a0, a1, a2, a3, a4, a5]) rfl ?_
  obtain rfl := HBD.out
  obtain rfl := HOK.out
  refine ⟨_, _, rfl, ((((((K1.out.set 0 _).set 1 _).set 2 _).set 3 _).set 4 _).set 5 _).1, ((((((K2.out.set (.inr (Nat.le_succ _)) 0 _).set (.inr (Nat.le_succ _)) 1 _).set (.inr (Nat.le_succ _)) 2 _).set (.inr (Nat.le_succ _)) 3 _).set (.inr (Nat.le_succ _)) 4 _).set (.inr (Nat.le_succ _)) 5 _), (K4.out.imp (fun e => e) (fun e k hk => Nat.le_trans D3.out.off.size (e k hk)))⟩
set_option maxRecDepth 100000 in
set_option maxHeartbeats 4000000 in
theorem do_free (h : Rep w E B p bs bb v fv t) (L : Env w E) (o : t.Ok) (hB : 9 ≤ B) (ht : t.steps < 900000) (s g f : Int) (i : Nat) (dg dt dn : Int) (dm : Bool) (d' : Wd) (hi : i < t.n) (hc : t.can ⟨5, s, g, f, ⟨(i : Int) + 1, dg, dt, dn, dm⟩, d'⟩ = true) (hw : ({ t with steps := t.steps + 1 } : St).wrong ⟨5, s, g, f, ⟨(i : Int) + 1, dg, dt, dn, dm⟩, d'⟩ = none) :
    Calls Tryz.prog 26 #[.pointer (some ⟨p, 0, none⟩), av ⟨5, s, g, f, ⟨(i : Int) + 1, dg, dt, dn, dm⟩, d'⟩] w (DoPost w E B p bs bb v (({ t with steps := t.steps + 1 } : St).take i, zw, true)) := by
  have ok1 := Lib.hid (show ({ t with steps := t.steps + 1 } : St).Ok from ⟨o.lt, o.nodup, o.mem, o.gen, Nat.le_succ_of_le o.made, o.size, o.cells⟩)
  have HR := Lib.hid h
  have HL := Lib.hid L
  have HO := Lib.hid o
  have hlt := Lib.hid (show p < w.heap.size ∧ bs < w.heap.size ∧ bb < w.heap.size ∧ ∀ k, v.ownBlock = some k → k < w.heap.size from ⟨h.lt.1, h.lt.2.1, h.lt.2.2, fun k e => (h.free.lt k e).2⟩)
  have D0 := Lib.hid (DoSt.start h L ⟨5, s, g, f, ⟨(i : Int) + 1, dg, dt, dn, dm⟩, d'⟩)
  have HC := Lib.hid (fun W (H : Rep W E B p bs bb v fv t) => can_any H o ⟨5, s, g, f, ⟨(i : Int) + 1, dg, dt, dn, dm⟩, d'⟩)
  rw [hc] at HC
  have hz := h.lt.1
  have hs3 : (t.steps : Int) < 1000000 := by omega
  clear h L o hc
  unfold av
  dsimp only
  go_enter Tryz.func26, Tryz.ntmps26
  go_wp2_with fail
  refine (HC.out _ D0.out.rep).mono ?_
  rintro e w1 ⟨rfl, hb⟩
  have D1 := Lib.hid (D0.out.below hb)
  clear hb
  have c3 := D1.out.rep.pcells.2.2.2.1
  have f3 := D1.out.rep.hp.frozen 3
  obtain ⟨b0, b1, b2, b3, b4, b5, b6, b7, b8, b9, b10, b11, b12, b13⟩ := D1.out.c14
  try dsimp only at b0 b1 b2 b3 b4 b5 b6 b7 b8 b9 b10 b11 b12 b13
  have hzn : ¬ w.heap.size = p := by omega
  have hzn2 : ¬ p = w.heap.size := by omega
  go_wp2_with fail
  have D2 := Lib.hid (D1.out.steps hB hz)
  have HW := Lib.hid (wrong_any D2.out.rep D2.out.env ok1.out ⟨5, s, g, f, ⟨(i : Int) + 1, dg, dt, dn, dm⟩, d'⟩)
  rw [hw] at HW
  refine HW.out.mono ?_
  rintro e w2 ⟨rfl, hb⟩
  have D3 := Lib.hid (D2.out.below hb)
  clear hb HW
  clear b0 b1 b2 b3 b4 b5 b6 b7 b8 b9 b10 b11 b12 b13 c3 f3
  obtain ⟨b0, b1, b2, b3, b4, b5, b6, b7, b8, b9, b10, b11, b12, b13⟩ := D3.out.c14
  try dsimp only at b0 b1 b2 b3 b4 b5 b6 b7 b8 b9 b10 b11 b12 b13
  unfold ev
  go_wp2_with fail
  refine (take_any D3.out.rep ok1.out i hi).mono ?_
  rintro e w3 ⟨v', fv', rfl, R3, O3, K4⟩
  obtain ⟨K1, K2, K3, _⟩ := D3.out.after hlt.out R3 O3
  have K1 := Lib.hid K1
  have K2 := Lib.hid K2
  have K4 := Lib.hid K4
  clear R3 O3
  dsimp only
  clear b0 b1 b2 b3 b4 b5 b6 b7 b8 b9 b10 b11 b12 b13
  have a0 := K3.cell 0
  have a1 := K3.cell 1
  have a2 := K3.cell 2
  have a3 := K3.cell 3
  have a4 := K3.cell 4
  have a5 := K3.cell 5
  have af := fun x => K3.frozen x
  simp only [List.getElem?_toArray, List.getElem?_cons_succ, List.getElem?_cons_zero] at a0 a1 a2 a3 a4 a5
  clear K3
  unfold rv zw
  go_wp2
  refine bodyPost_ret (v := .tuple #[rv zw true, .nilIface]) (by simp [results, Tryz.results26, go_sem, rv, zw, a0, a1, a2, a3, a4, a5]) rfl ?_
  refine ⟨_, _, rfl, ((((((K1.out.set 0 _).set 1 _).set 2 _).set 3 _).set 4 _).set 5 _).1, ((((((K2.out.set (.inr (Nat.le_succ _)) 0 _).set (.inr (Nat.le_succ _)) 1 _).set (.inr (Nat.le_succ _)) 2 _).set (.inr (Nat.le_succ _)) 3 _).set (.inr (Nat.le_succ _)) 4 _).set (.inr (Nat.le_succ _)) 5 _), (K4.out.imp (fun e => e) (fun e k hk => Nat.le_trans D3.out.off.size (e k hk)))⟩
end
end Go.Proofs.YtihjklimcchkhaaGreatDoor
