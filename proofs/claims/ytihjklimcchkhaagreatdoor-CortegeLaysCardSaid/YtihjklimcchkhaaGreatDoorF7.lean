/- plot: Do, the cells. A template (made by gen_XF6.py). -/
import Derived.Test.YtihjklimcchkhaaGreatDoorF6
namespace Go.Proofs.YtihjklimcchkhaaGreatDoor
open Go.RowKit Go.Extern.Stop Go.Stop Go.Extern Go.Sort
section
variable {w W w' : World} {E : Flt → Addr} {B p bs bb : Nat} {v fv : Value} {t : St}
set_option maxRecDepth 100000 in
set_option maxHeartbeats 4000000 in
theorem do_touch (h : Rep w E B p bs bb v fv t) (L : Env w E) (o : t.Ok) (hB : 9 ≤ B) (ht : t.steps < 900000) (k s g f : Int) (d d' : Wd) (l : Loc) (hk : k = 1 ∨ k = 2 ∨ k = 3) (hl : t.loc s g f = some l) (hc : t.can ⟨k, s, g, f, d, d'⟩ = true) (hw : ({ t with steps := t.steps + 1 } : St).wrong ⟨k, s, g, f, d, d'⟩ = none) :
    Calls Tryz.prog 26 #[.pointer (some ⟨p, 0, none⟩), av ⟨k, s, g, f, d, d'⟩] w (DoPost w E B p bs bb v (({ t with steps := t.steps + 1 } : St).touch l ⟨k, s, g, f, d, d'⟩)) := by
  have ok1 := Lib.hid (show ({ t with steps := t.steps + 1 } : St).Ok from ⟨o.lt, o.nodup, o.mem, o.gen, Nat.le_succ_of_le o.made, o.size, o.cells⟩)
  have hin : l.In ({ t with steps := t.steps + 1 } : St) := St.loc_in (s := s) (g := g) (f := f) hl
  have HIN := Lib.hid hin
  have HK := Lib.hid hk
  have HLO := Lib.hid (show ({ t with steps := t.steps + 1 } : St).loc s g f = some l from hl)
  have e4 : (k == 4) = false := by simp; omega
  have e5 : (k == 5) = false := by simp; omega
  clear hin hk hl
  have HR := Lib.hid h
  have HL := Lib.hid L
  have HO := Lib.hid o
  have hlt := Lib.hid (show p < w.heap.size ∧ bs < w.heap.size ∧ bb < w.heap.size ∧ ∀ k, v.ownBlock = some k → k < w.heap.size from ⟨h.lt.1, h.lt.2.1, h.lt.2.2, fun k e => (h.free.lt k e).2⟩)
  have D0 := Lib.hid (DoSt.start h L ⟨k, s, g, f, d, d'⟩)
  have HC := Lib.hid (fun W (H : Rep W E B p bs bb v fv t) => can_any H o ⟨k, s, g, f, d, d'⟩)
  rw [hc] at HC
  have hz := h.lt.1
  have hs3 : (t.steps : Int) < 1000000 := by omega
  clear h L o hc
  unfold av
  dsimp only
  go_enter Tryz.func26, Tryz.ntmps26
  go_wp2_with fail
  refine (HC.out _ D0.out.rep).mono ?_
  rintro e w1 ⟨rfl, hb⟩
  have D1 := Lib.hid (D0.out.below hb)
  clear hb
  have c3 := D1.out.rep.pcells.2.2.2.1
  have f3 := D1.out.rep.hp.frozen 3
  obtain ⟨b0, b1, b2, b3, b4, b5, b6, b7, b8, b9, b10, b11, b12, b13⟩ := D1.out.c14
  try dsimp only at b0 b1 b2 b3 b4 b5 b6 b7 b8 b9 b10 b11 b12 b13
  have hzn : ¬ w.heap.size = p := by omega
  have hzn2 : ¬ p = w.heap.size := by omega
  go_wp2_with fail
  have D2 := Lib.hid (D1.out.steps hB hz)
  have HW := Lib.hid (wrong_any D2.out.rep D2.out.env ok1.out ⟨k, s, g, f, d, d'⟩)
  rw [hw] at HW
  refine HW.out.mono ?_
  rintro e w2 ⟨rfl, hb⟩
  have D3 := Lib.hid (D2.out.below hb)
  clear hb HW
  clear b0 b1 b2 b3 b4 b5 b6 b7 b8 b9 b10 b11 b12 b13 c3 f3
  obtain ⟨b0, b1, b2, b3, b4, b5, b6, b7, b8, b9, b10, b11, b12, b13⟩ := D3.out.c14
  try dsimp only at b0 b1 b2 b3 b4 b5 b6 b7 b8 b9 b10 b11 b12 b13
  unfold ev
  go_upto_region 14 with (fail)
  have D4 := Lib.hid (D3.out.below ((Below.refl w2.heap.size w2).drew))
  have hcell := (cell_any D4.out.rep ok1.out s g f).mono (R' := fun e w3 => e = .returned (.pointer (some ⟨(l.at bs bb).1, (l.at bs bb).2, none⟩)) ∧ Hid (DoSt w w3 E B p bs bb v fv ({ t with steps := t.steps + 1 } : St) ⟨k, s, g, f, d, d'⟩)) (fun e w3 he => by
    obtain ⟨he, hb⟩ := he
    rw [HLO.out] at he
    exact ⟨he, D4.out.below hb⟩)
  obtain ⟨bd, hbd⟩ : ∃ bd, bd = (({ t with steps := t.steps + 1 } : St).touch l ⟨k, s, g, f, d, d'⟩).2.1 := ⟨_, rfl⟩
  obtain ⟨ok, hok⟩ : ∃ ok, ok = (({ t with steps := t.steps + 1 } : St).touch l ⟨k, s, g, f, d, d'⟩).2.2 := ⟨_, rfl⟩
  have htouch := Lib.hid (fun W (D5 : DoSt w W E B p bs bb v fv ({ t with steps := t.steps + 1 } : St) ⟨k, s, g, f, d, d'⟩) => (touch_any D5.rep HIN.out ⟨k, s, g, f, d, d'⟩ HK.out).mono (R' := fun e w4 => e = .returned (.agg #[.int .i64 bd.slot, .int .i64 bd.gen, .int .i64 bd.tag, .int .i64 bd.num, .bool bd.mark, .bool ok]) ∧
      BlkW w4 (w.heap.size + 1) 63 #[.int .i64 0, .int .i64 0, .int .i64 0, .int .i64 0, .bool false, .bool false] ∧
      Hid (∃ v' fv', RB w4 E B p bs bb v' fv' (({ t with steps := t.steps + 1 } : St).touch l ⟨k, s, g, f, d, d'⟩).1 (w.heap.size + 1) ∧ Off (Mine p bs bb v) w w4 ∧ (v'.ownBlock = v.ownBlock ∨ ∀ k, v'.ownBlock = some k → w.heap.size ≤ k))) (fun e w4 he => by
    obtain ⟨v', fv', he, R4, O4, K4⟩ := he
    obtain ⟨K1, K2, K3, _⟩ := D5.after hlt.out R4 O4
    refine ⟨by rw [hbd, hok]; exact he, K3, v', fv', K1, K2, K4.imp (fun e => e) (fun e k hk => Nat.le_trans D5.off.size (e k hk))⟩))
  have HBD := Lib.hid hbd
  have HOK := Lib.hid hok
  clear hbd hok hw
  clear HLO HL HR HO HC D0 D1 D2
  go_region_with (first
    | (go_at_call 59; refine hcell.mono ?_; rintro e w3 ⟨rfl, D5⟩; obtain ⟨q0, q1, q2, q3, q4, q5, q6, q7, q8, q9, q10, q11, q12, q13⟩ := D5.out.c14; try dsimp only at q0 q1 q2 q3 q4 q5 q6 q7 q8 q9 q10 q11 q12 q13)
    | (go_at_call 67; refine (htouch.out _ D5.out).mono ?_; rintro e w4 ⟨rfl, K3, K4⟩; have a0 := K3.cell 0; have a1 := K3.cell 1; have a2 := K3.cell 2; have a3 := K3.cell 3; have a4 := K3.cell 4; have a5 := K3.cell 5; have af := fun x => K3.frozen x; simp only [List.getElem?_toArray, List.getElem?_cons_succ, List.getElem?_cons_zero] at a0 a1 a2 a3 a4 a5; clear K3))
  all_goals
    go_wp2
    refine bodyPost_ret (v := .tuple #[.agg #[.int .i64 bd.slot, .int .i64 bd.gen, .int .i64 bd.tag, .int .i64 bd.num, .bool bd.mark, .bool ok], .nilIface]) (by simp [results, Tryz.results26, go_sem, a0, a1, a2, a3, a4, a5]) rfl ?_
    obtain ⟨v', fv', K1, K2, K5⟩ := K4.out
    obtain rfl := HBD.out
    obtain rfl := HOK.out
    exact ⟨v', fv', rfl, ((((((K1.set 0 _).set 1 _).set 2 _).set 3 _).set 4 _).set 5 _).1, ((((((K2.set (.inr (Nat.le_succ _)) 0 _).set (.inr (Nat.le_succ _)) 1 _).set (.inr (Nat.le_succ _)) 2 _).set (.inr (Nat.le_succ _)) 3 _).set (.inr (Nat.le_succ _)) 4 _).set (.inr (Nat.le_succ _)) 5 _), K5⟩
end
end Go.Proofs.YtihjklimcchkhaaGreatDoor
