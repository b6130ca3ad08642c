/- Mourner.step at a yard. A template (fill.py). -/
import Derived.Test.YtjilhncnbkaebaaGreatDoorSa
namespace Go.Proofs.YtjilhncnbkaebaaGreatDoor
open Go.RowKit Go.Extern.Stop Go.Stop Go.Extern Go.Sort
/-- What must be where a thread begins its next call. -/
def NextOk (a : Rt × Mo) : Prop :=
  a.2.pc ≤ 7 ∧ (a.2.pc = 3 → a.2.old.nil = false → a.2.old.small) ∧ (a.2.pc = 4 → a.1.st.last.2 = true → a.1.st.last.1.small) ∧ (a.2.pc = 5 → wrap64 (a.2.old.tag + 1) = a.2.old.tag + 1) ∧
  (a.2.next a.1.st.last).2.fine ∧ HazOk { a.1 with st := a.1.st.begin_ (a.2.next a.1.st.last).2 } (zw, false)
def over (a : Rt × Mo) : Bool := a.1.st.busy || (a.2.stop && a.2.pc == 0)
def beg1 (a : Rt × Mo) : Rt × Mo := (a.1.begins (a.2.next a.1.st.last).2, (a.2.next a.1.st.last).1)
/-- Within so many begins a call takes an access, or the thread begins none. -/
def BegOk : Nat → Rt × Mo → Prop
  | 0, a => over a = true
  | n + 1, a => over a = true ∨ (NextOk a ∧ BegOk n (beg1 a))
def begTo : Nat → Rt × Mo → Rt × Mo
  | 0, a => a
  | n + 1, a => if over a then a else begTo n (beg1 a)
section
variable {W w : World} {E : Flt → Addr} {B p bs bb : Nat} {t : St} {ts : List Th}
def Th.at_ (h : Th) (a : Rt × Mo) (K : Nat → Prop) : Th := { h with m := a.1, mo := a.2, K := K }
/-- Amid the loop: where the thread is, and where it goes. -/
def Lp (E : Flt → Addr) (B p bs bb : Nat) (t : St) (ts : List Th) (i : Nat) (hi : i < ts.length) (R : Rt × Mo) (n : Nat) (W : World) : Prop :=
  ∃ a K, Yd W E B p bs bb t (ts.set i (ts[i].at_ a K)) ∧ BegOk n a ∧ begTo n a = R
theorem Yd.mo_at {i : Nat} {hi : i < ts.length} {a : Rt × Mo} {K : Nat → Prop} (h : Yd W E B p bs bb t (ts.set i (ts[i].at_ a K))) : BlkW W ts[i].b 36 (moc ts[i].r a.2).toArray ∧ B ≤ ts[i].b ∧ ∃ sv fv nv, RtAt W ts[i].r sv fv nv a.1 := by
  have hl : i < (ts.set i (ts[i].at_ a K)).length := by rw [List.length_set]; exact hi
  have hm : ts[i].at_ a K ∈ ts.set i (ts[i].at_ a K) := by
    have := List.getElem_mem hl
    rwa [List.getElem_set_self] at this
  exact ⟨h.mo _ hm, (h.low _ hm).1, by obtain ⟨sv, fv, nv, hr⟩ := h.rite _ hm; exact ⟨sv, fv, nv, hr.at_⟩⟩
theorem Busy_at {r : Nat} {m : Rt} (h : ∃ sv fv nv, RtAt W r sv fv nv m) : Calls Tryz.prog 15 #[.pointer (some ⟨r, 0, none⟩)] W fun e w' => e = .returned (.bool m.st.busy) ∧ W = w' := by
  obtain ⟨sv, fv, nv, hr⟩ := h
  exact Busy_is hr
theorem Next_at {r : Nat} {m : Rt} (h : ∃ sv fv nv, RtAt W r sv fv nv m) (hb : m.st.busy = true) : Calls Tryz.prog 25 #[.pointer (some ⟨r, 0, none⟩)] W fun e w' => e = .returned (.tuple #[aav m.st.acc, .bool true]) ∧ Below W.heap.size W w' := by
  obtain ⟨sv, fv, nv, hr⟩ := h
  exact Next_busy hr hb
theorem begTo_over {n : Nat} {a : Rt × Mo} (h : over a = true) : begTo n a = a := by
  cases n with
  | zero => rfl
  | succ n => unfold begTo; rw [if_pos h]
theorem blk14 {W : World} {g : Nat} {t : TypeId} {v0 v1 v2 v3 v4 v5 v6 v7 v8 v9 v10 v11 v12 v13 : Value} (h : BlkW W g t #[v0, v1, v2, v3, v4, v5, v6, v7, v8, v9, v10, v11, v12, v13]) : W.cell? ⟨g, 0, none⟩ = some v0 ∧ W.cell? ⟨g, 1, none⟩ = some v1 ∧ W.cell? ⟨g, 2, none⟩ = some v2 ∧ W.cell? ⟨g, 3, none⟩ = some v3 ∧ W.cell? ⟨g, 4, none⟩ = some v4 ∧ W.cell? ⟨g, 5, none⟩ = some v5 ∧ W.cell? ⟨g, 6, none⟩ = some v6 ∧ W.cell? ⟨g, 7, none⟩ = some v7 ∧ W.cell? ⟨g, 8, none⟩ = some v8 ∧ W.cell? ⟨g, 9, none⟩ = some v9 ∧ W.cell? ⟨g, 10, none⟩ = some v10 ∧ W.cell? ⟨g, 11, none⟩ = some v11 ∧ W.cell? ⟨g, 12, none⟩ = some v12 ∧ W.cell? ⟨g, 13, none⟩ = some v13 :=
  ⟨h.cell 0, h.cell 1, h.cell 2, h.cell 3, h.cell 4, h.cell 5, h.cell 6, h.cell 7, h.cell 8, h.cell 9, h.cell 10, h.cell 11, h.cell 12, h.cell 13⟩
theorem below_base {ts : List Th} (h : Yd W E B p bs bb t ts) : B ≤ W.heap.size := by
  obtain ⟨⟨v, fv', hq⟩, _⟩ := h.plot
  exact hq.base_lt
theorem Yd.low_at {i : Nat} {hi : i < ts.length} {a : Rt × Mo} {K : Nat → Prop} (h : Yd W E B p bs bb t (ts.set i (ts[i].at_ a K))) : True ∧ ∀ b, K b → b < W.heap.size := by
  have hl : i < (ts.set i (ts[i].at_ a K)).length := by rw [List.length_set]; exact hi
  have hm : ts[i].at_ a K ∈ ts.set i (ts[i].at_ a K) := by
    have := List.getElem_mem hl
    rwa [List.getElem_set_self] at this
  exact ⟨trivial, fun b e => ((h.rite _ hm).low b e).2⟩
theorem Yd.Took_off {ts : List Th} (h : Yd W E B p bs bb t ts) {i : Nat} (hi : i < ts.length) (hb : ts[i].m.st.busy = true) (x : Wd × Bool) (ok : HazOk ts[i].m x) :
    Calls Tryz.prog 26 #[.pointer (some ⟨ts[i].r, 0, none⟩), rpv x] W fun e w' => YStep W E B p bs bb t ts i hi (ts[i].m.goOn x) e w' ∧ Off ts[i].K W w' := by
  obtain ⟨sv, fv, nv, hr⟩ := h.rite ts[i] (List.getElem_mem hi)
  refine (Took_haz hr.exact hb x ok).mono fun e w' ⟨he, hs⟩ => ⟨⟨he, ?_⟩, ?_⟩
  · obtain ⟨K', h1, h2⟩ := h.ritestep hi hr hs.out
    exact ⟨K', Lib.hid h1, Lib.hid h2⟩
  · obtain ⟨_, _, ho, _⟩ := hs.out
    exact ⟨ho.os, ho.tape, ho.output, ho.size, fun j hj hn => ho.block j hj (fun e => hn (hr.foot_sub _ e))⟩
theorem Took_at {i : Nat} {hi : i < ts.length} {a : Rt × Mo} {K : Nat → Prop} (h : Yd W E B p bs bb t (ts.set i (ts[i].at_ a K))) (hb : a.1.st.busy = true) (x : Wd × Bool) (ok : HazOk a.1 x) :
    Calls Tryz.prog 26 #[.pointer (some ⟨ts[i].r, 0, none⟩), rpv x] W fun e w' => e = .returned .nilIface ∧ (∃ K', Hid (Yd w' E B p bs bb t (ts.set i (ts[i].at_ (a.1.goOn x, a.2) K')))) ∧ Hid (Below B W w') ∧ Hid (Off K W w') := by
  have hl : i < (ts.set i (ts[i].at_ a K)).length := by rw [List.length_set]; exact hi
  have e : (ts.set i (ts[i].at_ a K))[i] = ts[i].at_ a K := List.getElem_set_self hl
  have k := Yd.Took_off h hl (by rw [e]; exact hb) x (by rw [e]; exact ok)
  have er : (ts.set i (ts[i].at_ a K))[i].r = ts[i].r := by rw [e]; rfl
  rw [er] at k
  refine k.mono fun e' w' ⟨⟨he, K', h1, h2⟩, h3⟩ => ⟨he, ⟨K', Lib.hid ?_⟩, h2, Lib.hid ?_⟩
  · have h1 := h1.out
    rw [List.set_set, e] at h1
    exact h1
  · rw [e] at h3; exact h3
theorem Nxt_at {i : Nat} {hi : i < ts.length} {a : Rt × Mo} {K : Nat → Prop} (h : Yd W E B p bs bb t (ts.set i (ts[i].at_ a K))) (ok : NextOk a) :
    Calls Tryz.prog 41 #[.pointer (some ⟨ts[i].b, 0, none⟩)] W fun e w' => e = .returned (clv (a.2.next a.1.st.last).2) ∧ Hid (Yd w' E B p bs bb t (ts.set i (ts[i].at_ (a.1, (a.2.next a.1.st.last).1) K))) ∧ Hid (Below B W w') := by
  have hl : i < (ts.set i (ts[i].at_ a K)).length := by rw [List.length_set]; exact hi
  have e : (ts.set i (ts[i].at_ a K))[i] = ts[i].at_ a K := List.getElem_set_self hl
  have k := Yd.next_ h hl (by rw [e]; exact ok.1) (by rw [e]; exact ok.2.1) (by rw [e]; exact ok.2.2.1) (by rw [e]; exact ok.2.2.2.1)
  rw [List.set_set, e] at k
  exact k
theorem Beg_at {i : Nat} {hi : i < ts.length} {a : Rt × Mo} {K : Nat → Prop} (h : Yd W E B p bs bb t (ts.set i (ts[i].at_ a K))) (hb : a.1.st.busy = false) (c : Cl) (hc : c.fine) (ok : HazOk { a.1 with st := a.1.st.begin_ c } (zw, false)) :
    Calls Tryz.prog 16 #[.pointer (some ⟨ts[i].r, 0, none⟩), clv c] W fun e w' => e = .returned .nilIface ∧ (∃ K', Hid (Yd w' E B p bs bb t (ts.set i (ts[i].at_ (a.1.begins c, a.2) K')))) ∧ Hid (Below B W w') := by
  have hl : i < (ts.set i (ts[i].at_ a K)).length := by rw [List.length_set]; exact hi
  have e : (ts.set i (ts[i].at_ a K))[i] = ts[i].at_ a K := List.getElem_set_self hl
  have k := Yd.Begin h hl (by rw [e]; exact hb) c hc (by rw [e]; exact ok)
  have er : (ts.set i (ts[i].at_ a K))[i].r = ts[i].r := by rw [e]; rfl
  rw [er] at k
  refine k.mono fun e' w' ⟨he, K', h1, h2⟩ => ⟨he, ⟨K', Lib.hid ?_⟩, h2⟩
  have h1 := h1.out
  rw [List.set_set, e] at h1
  exact h1
/-- What a step leaves. -/
def SPost (W : World) (E : Flt → Addr) (B p bs bb : Nat) (t : St) (ts : List Th) (i : Nat) (hi : i < ts.length) (R : Rt × Mo) (e : Ending) (w' : World) : Prop :=
  e = .returned (.bool true) ∧ Hid (Below B W w') ∧ ∃ K, Hid (Yd w' E B p bs bb (if R.1.st.busy then (t.step R.1.st.acc).1 else t) (ts.set i (ts[i].at_ (if R.1.st.busy then R.1.goOn (t.step R.1.st.acc).2 else R.1, R.2) K)))
set_option maxRecDepth 100000 in
set_option maxHeartbeats 1000000 in
theorem step_is (h : Yd W E B p bs bb t ts) {i : Nat} (hi : i < ts.length) (hb : BegOk 11 (ts[i].m, ts[i].mo)) {R : Rt × Mo} (hR : begTo 11 (ts[i].m, ts[i].mo) = R)
    (ht : t.steps < 900000) (hc : R.1.st.busy = true → t.can R.1.st.acc = true ∧ HazOk R.1 (t.step R.1.st.acc).2) :
    Calls Tryz.prog 12 #[.pointer (some ⟨ts[i].b, 0, none⟩), .pointer (some ⟨p, 0, none⟩)] W (SPost W E B p bs bb t ts i hi R) := by
  have HL : Hid (Lp E B p bs bb t ts i hi R 11 W) := by
    refine Lib.hid ⟨(ts[i].m, ts[i].mo), ts[i].K, ?_, hb, hR⟩
    have e : ts.set i (ts[i].at_ (ts[i].m, ts[i].mo) ts[i].K) = ts := List.set_getElem_self hi
    rw [e]; exact h
  have hB7 := Lib.hid h.hB
  clear h hb hR
  replace hc := Lib.hid hc
  obtain ⟨g, hg⟩ : ∃ g, g = ts[i].b := ⟨_, rfl⟩
  rw [← hg]
  replace hg := Lib.hid hg
  go_enter Tryz.func12, Tryz.ntmps12
  go_wp2
  go_loopw [5] (fun vi wr => ∃ k : Nat, k ≤ 11 ∧ vi = .int .i64 (k : Int) ∧ Below B W wr ∧ Lp E B p bs bb t ts i hi R (11 - k) wr) (fun vi _ => 12 - (intOf vi).toNat)
  case atStart => exact ⟨0, Nat.zero_le _, rfl, Below.refl _ _, HL.out⟩
  case round =>
    obtain ⟨k, hk, rfl, hbel, a, K, hy, hbk, hbt⟩ := hrel
    obtain ⟨hm, hbg, hr⟩ := Yd.mo_at hy
    rw [← hg.out] at hm hbg
    have HY := Lib.hid hy
    have HK := Lib.hid hbk
    have HT := Lib.hid hbt
    have HE := Lib.hid hbel
    have HR := Lib.hid hr
    have p0 : wr.cell? ⟨g, 0, none⟩ = some (.pointer (some ⟨ts[i].r, 0, none⟩)) := hm.cell 0
    have p1 : wr.cell? ⟨g, 1, none⟩ = some (.int .i64 (a.2.pc : Int)) := hm.cell 1
    have p2 : wr.cell? ⟨g, 13, none⟩ = some (.bool a.2.stop) := hm.cell 13
    have hz := hm.lt
    clear hy hbk hbt hbel hm hr
    have hk12 : (k : Int) < 12 := by omega
    generalize hrr : ts[i].r = r at *
    replace hrr := Lib.hid hrr
    go_wp2_with fail
    refine (Busy_at HR.out).mono ?_
    rintro e w1 ⟨rfl, rfl⟩
    cases hbz : a.1.st.busy with
    | true =>
      have ea : a = R := (begTo_over (by unfold over; rw [hbz]; rfl)).symm.trans HT.out
      clear HT HK p1 p2
      subst ea
      go_wp2_with fail
      refine (Next_at HR.out hbz).mono ?_
      rintro e w2 ⟨rfl, hb⟩
      replace HY := Lib.hid (HY.out.below hb)
      replace HE := Lib.hid (HE.out.trans (hb.mono (by omega)))
      clear hb HR p0 hz
      unfold aav
      go_upto_region 11 with fail
      have HA : Hid (BlkW (w2.alloc (.cells #[.int .i64 a.1.st.acc.kind, .int .i64 a.1.st.acc.s, .int .i64 a.1.st.acc.g, .int .i64 a.1.st.acc.f, .int .i64 a.1.st.acc.old.slot, .int .i64 a.1.st.acc.old.gen, .int .i64 a.1.st.acc.old.tag, .int .i64 a.1.st.acc.old.num, .bool a.1.st.acc.old.mark, .int .i64 a.1.st.acc.new.slot, .int .i64 a.1.st.acc.new.gen, .int .i64 a.1.st.acc.new.tag, .int .i64 a.1.st.acc.new.num, .bool a.1.st.acc.new.mark] 67)) w2.heap.size 67 #[.int .i64 a.1.st.acc.kind, .int .i64 a.1.st.acc.s, .int .i64 a.1.st.acc.g, .int .i64 a.1.st.acc.f, .int .i64 a.1.st.acc.old.slot, .int .i64 a.1.st.acc.old.gen, .int .i64 a.1.st.acc.old.tag, .int .i64 a.1.st.acc.old.num, .bool a.1.st.acc.old.mark, .int .i64 a.1.st.acc.new.slot, .int .i64 a.1.st.acc.new.gen, .int .i64 a.1.st.acc.new.tag, .int .i64 a.1.st.acc.new.num, .bool a.1.st.acc.new.mark]) := Lib.hid (BlkW.new _ _ _)
      have hb2 := below_alloc (Below.refl w2.heap.size w2) (.cells #[.int .i64 a.1.st.acc.kind, .int .i64 a.1.st.acc.s, .int .i64 a.1.st.acc.g, .int .i64 a.1.st.acc.f, .int .i64 a.1.st.acc.old.slot, .int .i64 a.1.st.acc.old.gen, .int .i64 a.1.st.acc.old.tag, .int .i64 a.1.st.acc.old.num, .bool a.1.st.acc.old.mark, .int .i64 a.1.st.acc.new.slot, .int .i64 a.1.st.acc.new.gen, .int .i64 a.1.st.acc.new.tag, .int .i64 a.1.st.acc.new.num, .bool a.1.st.acc.new.mark] 67)
      have hBw := below_base HY.out
      replace HY := Lib.hid (HY.out.below hb2)
      replace HE := Lib.hid (HE.out.trans (hb2.mono hBw))
      clear hb2 hBw
      generalize w2.alloc (.cells #[.int .i64 a.1.st.acc.kind, .int .i64 a.1.st.acc.s, .int .i64 a.1.st.acc.g, .int .i64 a.1.st.acc.f, .int .i64 a.1.st.acc.old.slot, .int .i64 a.1.st.acc.old.gen, .int .i64 a.1.st.acc.old.tag, .int .i64 a.1.st.acc.old.num, .bool a.1.st.acc.old.mark, .int .i64 a.1.st.acc.new.slot, .int .i64 a.1.st.acc.new.gen, .int .i64 a.1.st.acc.new.tag, .int .i64 a.1.st.acc.new.num, .bool a.1.st.acc.new.mark] 67) = W2 at HA HY HE ⊢
      generalize w2.heap.size = ab at HA ⊢
      have hab := HA.out.lt
      obtain ⟨c0, c1, c2, c3, c4, c5, c6, c7, c8, c9, c10, c11, c12, c13⟩ := blk14 HA.out
      go_wp2_with fail
      clear c0 c1 c2 c3 c4 c5 c6 c7 c8 c9 c10 c11 c12 c13 hab HA
      refine (Yd.Do HY.out ht a.1.st.acc (hc.out hbz).1).mono ?_
      rintro e w3 ⟨rfl, h1, h2⟩
      have h3 := HE.out.trans h2.out
      replace HE := Lib.hid h3
      clear h2 h3 HY
      unfold rpv
      obtain ⟨x, hx⟩ : ∃ x, (t.step a.1.st.acc).2 = x := ⟨_, rfl⟩
      rw [hx]
      replace hx := Lib.hid hx
      go_upto_region 12 with fail
      have HX : Hid (BlkW (w3.alloc (.cells #[.int .i64 x.1.slot, .int .i64 x.1.gen, .int .i64 x.1.tag, .int .i64 x.1.num, .bool x.1.mark, .bool x.2] 63)) w3.heap.size 63 (rpc x).toArray) := Lib.hid (BlkW.new _ _ _)
      have hb2 := below_alloc (Below.refl w3.heap.size w3) (.cells #[.int .i64 x.1.slot, .int .i64 x.1.gen, .int .i64 x.1.tag, .int .i64 x.1.num, .bool x.1.mark, .bool x.2] 63)
      have hBw := below_base h1.out
      have hxk : ∀ j, j = w3.heap.size → ¬ K j := fun j ej ek => by have := (Yd.low_at h1.out).2 j ek; omega
      have HY := Lib.hid ((h1.out.below hb2).below (Below.refl _ _).drew)
      replace HE := Lib.hid ((HE.out.trans (hb2.mono hBw)).trans ((Below.refl (w3.alloc (.cells #[.int .i64 x.1.slot, .int .i64 x.1.gen, .int .i64 x.1.tag, .int .i64 x.1.num, .bool x.1.mark, .bool x.2] 63)).heap.size (w3.alloc (.cells #[.int .i64 x.1.slot, .int .i64 x.1.gen, .int .i64 x.1.tag, .int .i64 x.1.num, .bool x.1.mark, .bool x.2] 63))).drew.mono (Nat.le_trans hBw hb2.size)))
      replace HX := Lib.hid (HX.out.below (Below.refl _ _).drew)
      have hxk := hxk _ rfl
      clear hb2 h1 hBw
      refine wp_region_held (S := fun w' => w'.cell? ⟨g, 0, none⟩ = some (.pointer (some ⟨r, 0, none⟩)) ∧ w'.rangeAt w3.heap.size 0 (rpc x)) (by kernel_rfl) ?_
      show wpAnyH _ _ _ _ _ 12 #[false, false, false, false, false, false, false, false, false, false, false, false] _ (w3.alloc (.cells #[.int .i64 x.1.slot, .int .i64 x.1.gen, .int .i64 x.1.tag, .int .i64 x.1.num, .bool x.1.mark, .bool x.2] 63)).drew
      generalize (w3.alloc (.cells #[.int .i64 x.1.slot, .int .i64 x.1.gen, .int .i64 x.1.tag, .int .i64 x.1.num, .bool x.1.mark, .bool x.2] 63)).drew = W3 at HX HY HE ⊢
      generalize w3.heap.size = xb at HX hxk ⊢
      have hS : W3.cell? ⟨g, 0, none⟩ = some (.pointer (some ⟨r, 0, none⟩)) ∧ W3.rangeAt xb 0 (rpc x) := ⟨by obtain ⟨hm, _⟩ := Yd.mo_at HY.out; rw [← hg.out, hrr.out] at hm; exact hm.cell 0, blk_range HX.out 0 _ (by kernel_rfl)⟩
      refine wpAnyH_take (i := 0) (v := .nilIface) rfl (by kernel_rfl) (by kernel_rfl) (by kernel_rfl) (fun _ _ _ h => h) (Or.inl ⟨by rfl, fun w' _ => by go_simp⟩) hS ?_
      simp only [Act.put, List.getElem_toArray, List.getElem_cons_succ, List.getElem_cons_zero, List.setIfInBounds_toArray, List.set_cons_zero, List.set_cons_succ]
      refine wpAnyH_take (i := 1) (v := .bool true) rfl (by kernel_rfl) (by kernel_rfl) (by kernel_rfl) (fun _ _ _ h => h) (Or.inl ⟨by rfl, fun w' _ => by go_simp⟩) hS ?_
      simp only [Act.put, List.getElem_toArray, List.getElem_cons_succ, List.getElem_cons_zero, List.setIfInBounds_toArray, List.set_cons_zero, List.set_cons_succ]
      refine wpAnyH_take (i := 2) (v := .bool true) rfl (by kernel_rfl) (by kernel_rfl) (by kernel_rfl) (fun _ _ _ h => h) (Or.inl ⟨by rfl, fun w' _ => by go_simp⟩) hS ?_
      simp only [Act.put, List.getElem_toArray, List.getElem_cons_succ, List.getElem_cons_zero, List.setIfInBounds_toArray, List.set_cons_zero, List.set_cons_succ]
      refine wpAnyH_take (i := 3) (v := .pointer (some ⟨g, 0, none⟩)) rfl (by kernel_rfl) (by kernel_rfl) (by kernel_rfl) (fun _ _ _ h => h) (Or.inl ⟨by rfl, fun w' _ => by go_simp⟩) hS ?_
      simp only [Act.put, List.getElem_toArray, List.getElem_cons_succ, List.getElem_cons_zero, List.setIfInBounds_toArray, List.set_cons_zero, List.set_cons_succ]
      refine wpAnyH_take (i := 4) (v := .pointer (some ⟨g, 0, none⟩)) rfl (by kernel_rfl) (by kernel_rfl) (by kernel_rfl) (fun _ _ _ h => h) (Or.inl ⟨by rfl, fun w' _ => by go_simp⟩) hS ?_
      simp only [Act.put, List.getElem_toArray, List.getElem_cons_succ, List.getElem_cons_zero, List.setIfInBounds_toArray, List.set_cons_zero, List.set_cons_succ]
      refine wpAnyH_take (i := 5) (v := .pointer (some ⟨g, 0, none⟩)) rfl (by kernel_rfl) (by kernel_rfl) (by kernel_rfl) (fun _ _ _ h => h) (Or.inl ⟨by rfl, fun w' _ => by go_simp⟩) hS ?_
      simp only [Act.put, List.getElem_toArray, List.getElem_cons_succ, List.getElem_cons_zero, List.setIfInBounds_toArray, List.set_cons_zero, List.set_cons_succ]
      refine wpAnyH_take (i := 6) (v := .pointer (some ⟨r, 0, none⟩)) rfl (by kernel_rfl) (by kernel_rfl) (by kernel_rfl) (fun _ _ _ h => h) (Or.inl ⟨by rfl, fun w' h => by have h2 := h.1; go_simp⟩) hS ?_
      simp only [Act.put, List.getElem_toArray, List.getElem_cons_succ, List.getElem_cons_zero, List.setIfInBounds_toArray, List.set_cons_zero, List.set_cons_succ]
      refine wpAnyH_take (i := 7) (v := .agg (rpc x).toArray) rfl (by kernel_rfl) (by kernel_rfl) (by kernel_rfl) (fun _ _ _ h => h) (yieldsIf_load_mid (by rfl) 63 (.tmp 8) rfl xb 0 rfl (rpc x) _ (fun w' h => h.2) Tryz.underlying63 rfl infoRep) hS ?_
      simp only [Act.put, List.getElem_toArray, List.getElem_cons_succ, List.getElem_cons_zero, List.setIfInBounds_toArray, List.set_cons_zero, List.set_cons_succ]
      have HT : Hid (Calls Tryz.prog 26 #[.pointer (some ⟨r, 0, none⟩), .agg (rpc x).toArray] W3 _) := Lib.hid (hrr.out ▸ Took_at HY.out hbz x (hx.out ▸ (hc.out hbz).2))
      refine wpAnyH_ready (rs := [8]) (by kernel_rfl) (by simp) ?_
      refine AllReadyH.cons rfl (fun K2 hK => ?_) AllReadyH.nil
      rw [if_pos (by rfl)]
      go_simp
      refine HT.out.mono ?_
      rintro e w4 ⟨rfl, ⟨K', h1⟩, h2, h3⟩
      have hX4 := h3.out.blk HX.out hxk
      replace HE := Lib.hid (HE.out.trans h2.out)
      have p4 : w4.cell? ⟨g, 0, none⟩ = some (.pointer (some ⟨r, 0, none⟩)) := by obtain ⟨hm, _⟩ := Yd.mo_at h1.out; rw [← hg.out, hrr.out] at hm; exact hm.cell 0
      refine hK.out _ _ ⟨p4, blk_range hX4 0 _ (by kernel_rfl)⟩ (fun _ => ?_)
      replace hS := And.intro p4 (blk_range hX4 0 (rpc x) (by kernel_rfl))
      clear hK K2 HT HX HY
      refine wpAnyH_take (i := 9) (v := .bool true) rfl (by kernel_rfl) (by kernel_rfl) (by kernel_rfl) (fun _ _ _ h => h) (Or.inl ⟨by rfl, fun w' _ => by go_simp⟩) hS ?_
      simp only [Act.put, List.getElem_toArray, List.getElem_cons_succ, List.getElem_cons_zero, List.setIfInBounds_toArray, List.set_cons_zero, List.set_cons_succ]
      refine wpAnyH_take (i := 10) (v := .bool true) rfl (by kernel_rfl) (by kernel_rfl) (by kernel_rfl) (fun _ _ _ h => h) (Or.inl ⟨by rfl, fun w' _ => by go_simp⟩) hS ?_
      simp only [Act.put, List.getElem_toArray, List.getElem_cons_succ, List.getElem_cons_zero, List.setIfInBounds_toArray, List.set_cons_zero, List.set_cons_succ]
      refine wpAnyH_take (i := 11) (v := .bool true) rfl (by kernel_rfl) (by kernel_rfl) (by kernel_rfl) (fun _ _ _ h => h) (Or.inl ⟨by rfl, fun w' _ => by go_simp⟩) hS ?_
      simp only [Act.put, List.getElem_toArray, List.getElem_cons_succ, List.getElem_cons_zero, List.setIfInBounds_toArray, List.set_cons_zero, List.set_cons_succ]
      refine wpAnyH_done (by kernel_rfl) ?_ _
      clear hS p4 hX4
      go_wp2
      go_ret
      refine ⟨rfl, HE, K', ?_⟩
      rw [if_pos hbz, if_pos hbz, hx.out]
      exact h1
    | false =>
      go_upto_region 4 with fail
      cases hov : (a.2.stop && a.2.pc == 0) with
      | true =>
        have ea : a = R := (begTo_over (by unfold over; rw [hov, Bool.or_true])).symm.trans HT.out
        clear HT HK
        subst ea
        have hs : a.2.stop = true := (Bool.and_eq_true _ _ ▸ hov).1
        have hpz : a.2.pc = 0 := eq_of_beq (Bool.and_eq_true _ _ ▸ hov).2
        rw [hs] at p2
        rw [hpz] at p1
        clear hov hs hpz
        go_wp2
        go_ret
        refine ⟨rfl, HE, K, ?_⟩
        rw [hbz, if_neg Bool.false_ne_true, if_neg Bool.false_ne_true]
        exact HY
      | false =>
        have hno : over a = false := by unfold over; rw [hbz, hov]; rfl
        obtain ⟨n, hn⟩ : ∃ n, 11 - k = n + 1 := by
          cases hq : 11 - k with
          | zero =>
            have h0 := HK.out
            rw [hq] at h0
            exact absurd h0 (by unfold BegOk; rw [hno]; exact Bool.false_ne_true)
          | succ n => exact ⟨n, rfl⟩
        have hk1 := HK.out
        have ht1 := HT.out
        rw [hn] at hk1 ht1
        unfold BegOk at hk1
        unfold begTo at ht1
        rw [if_neg (by rw [hno]; exact Bool.false_ne_true)] at ht1
        rcases hk1 with hk1 | ⟨hk1, hk2⟩
        · rw [hno] at hk1; exact absurd hk1 Bool.false_ne_true
        replace HK := Lib.hid hk1
        have HK2 := Lib.hid hk2
        replace HT := Lib.hid ht1
        have HN := Lib.hid hn
        clear hk1 hk2 ht1 hn hno
        have hcase : a.2.stop = false ∨ (a.2.stop = true ∧ ((a.2.pc : Int) == 0) = false) := by
          cases hs : a.2.stop with
          | false => exact .inl rfl
          | true =>
            refine .inr ⟨rfl, ?_⟩
            rw [hs, Bool.true_and] at hov
            simpa using hov
        clear hov
        have HBZ := Lib.hid hbz
        clear hbz
        rcases hcase with hs | ⟨hs, hpn⟩
        case' inl =>
          rw [hs] at p2
          clear hs
          go_upto_region 6 with fail
        case' inr =>
          rw [hs] at p2
          clear hs
          go_upto_region 6 with fail
        all_goals
          refine wp_region_held (S := fun w' => w'.cell? ⟨g, 0, none⟩ = some (.pointer (some ⟨r, 0, none⟩))) (by kernel_rfl) ?_
          have HY2 := Lib.hid (HY.out.below (Below.refl _ _).drew)
          have HE2 := Lib.hid (HE.out.trans ((Below.refl wr.heap.size wr).drew.mono (below_base HY.out)))
          have hS : wr.drew.cell? ⟨g, 0, none⟩ = some (.pointer (some ⟨r, 0, none⟩)) := by obtain ⟨hm, _⟩ := Yd.mo_at HY2.out; rw [← hg.out, hrr.out] at hm; exact hm.cell 0
          show wpAnyH _ _ _ _ _ 8 #[false, false, false, false, false, false, false, false] _ wr.drew
          refine wpAnyH_take (i := 0) (v := .pointer (some ⟨g, 0, none⟩)) rfl (by kernel_rfl) (by kernel_rfl) (by kernel_rfl) (fun _ _ _ h => h) (Or.inl ⟨by rfl, fun w' _ => by go_simp⟩) hS ?_
          simp only [Act.put, List.getElem_toArray, List.getElem_cons_succ, List.getElem_cons_zero, List.setIfInBounds_toArray, List.set_cons_zero, List.set_cons_succ]
          refine wpAnyH_take (i := 1) (v := .pointer (some ⟨g, 0, none⟩)) rfl (by kernel_rfl) (by kernel_rfl) (by kernel_rfl) (fun _ _ _ h => h) (Or.inl ⟨by rfl, fun w' _ => by go_simp⟩) hS ?_
          simp only [Act.put, List.getElem_toArray, List.getElem_cons_succ, List.getElem_cons_zero, List.setIfInBounds_toArray, List.set_cons_zero, List.set_cons_succ]
          refine wpAnyH_take (i := 2) (v := .pointer (some ⟨g, 0, none⟩)) rfl (by kernel_rfl) (by kernel_rfl) (by kernel_rfl) (fun _ _ _ h => h) (Or.inl ⟨by rfl, fun w' _ => by go_simp⟩) hS ?_
          simp only [Act.put, List.getElem_toArray, List.getElem_cons_succ, List.getElem_cons_zero, List.setIfInBounds_toArray, List.set_cons_zero, List.set_cons_succ]
          refine wpAnyH_take (i := 3) (v := .pointer (some ⟨r, 0, none⟩)) rfl (by kernel_rfl) (by kernel_rfl) (by kernel_rfl) (fun _ _ _ h => h) (Or.inl ⟨by rfl, fun w' h => by go_simp⟩) hS ?_
          simp only [Act.put, List.getElem_toArray, List.getElem_cons_succ, List.getElem_cons_zero, List.setIfInBounds_toArray, List.set_cons_zero, List.set_cons_succ]
          refine wpAnyH_take (i := 4) (v := .pointer (some ⟨g, 0, none⟩)) rfl (by kernel_rfl) (by kernel_rfl) (by kernel_rfl) (fun _ _ _ h => h) (Or.inl ⟨by rfl, fun w' _ => by go_simp⟩) hS ?_
          simp only [Act.put, List.getElem_toArray, List.getElem_cons_succ, List.getElem_cons_zero, List.setIfInBounds_toArray, List.set_cons_zero, List.set_cons_succ]
          have HC := Lib.hid (hg.out ▸ Nxt_at HY2.out HK.out)
          refine wpAnyH_ready (rs := [5]) (by kernel_rfl) (by simp) ?_
          refine AllReadyH.cons rfl (fun K2 hK => ?_) AllReadyH.nil
          rw [if_pos (by rfl)]
          go_simp
          refine HC.out.mono ?_
          rintro e w4 ⟨rfl, h1, h2⟩
          have p4 : w4.cell? ⟨g, 0, none⟩ = some (.pointer (some ⟨r, 0, none⟩)) := by obtain ⟨hm, _⟩ := Yd.mo_at h1.out; rw [← hg.out, hrr.out] at hm; exact hm.cell 0
          refine hK.out _ _ p4 (fun _ => ?_)
          have HE4 := Lib.hid (HE2.out.trans h2.out)
          have HC2 := Lib.hid (hrr.out ▸ Beg_at h1.out HBZ.out _ HK.out.2.2.2.2.1 HK.out.2.2.2.2.2)
          clear hK K2 HC
          refine wpAnyH_ready (rs := [6]) (by kernel_rfl) (by simp) ?_
          refine AllReadyH.cons rfl (fun K2 hK => ?_) AllReadyH.nil
          rw [if_pos (by rfl)]
          go_simp
          refine HC2.out.mono ?_
          rintro e w5 ⟨rfl, ⟨K', h3⟩, h4⟩
          have p5 : w5.cell? ⟨g, 0, none⟩ = some (.pointer (some ⟨r, 0, none⟩)) := by obtain ⟨hm, _⟩ := Yd.mo_at h3.out; rw [← hg.out, hrr.out] at hm; exact hm.cell 0
          refine hK.out _ _ p5 (fun _ => ?_)
          have HE5 := Lib.hid (HE4.out.trans h4.out)
          clear hK K2 HC2
          have hS := p5
          refine wpAnyH_take (i := 7) (v := .bool false) rfl (by kernel_rfl) (by kernel_rfl) (by kernel_rfl) (fun _ _ _ h => h) (Or.inl ⟨by rfl, fun w' _ => by go_simp⟩) hS ?_
          simp only [Act.put, List.getElem_toArray, List.getElem_cons_succ, List.getElem_cons_zero, List.setIfInBounds_toArray, List.set_cons_zero, List.set_cons_succ]
          refine wpAnyH_done (by kernel_rfl) ?_ _
          clear hS p4 p5 h1 h2 h4
          have hn1 : 11 - (k + 1) = n := by have := HN.out; omega
          have HF : Hid (Lp E B p bs bb t ts i hi R (11 - (k + 1)) w5) := by
            rw [hn1]
            exact Lib.hid ⟨beg1 a, K', h3.out, HK2.out, HT.out⟩
          have hk11 : k + 1 ≤ 11 := by have := HN.out; omega
          have zk : wrap64 ((k : Int) + 1) = ((k + 1 : Nat) : Int) := by rw [IntWalk.wrap64_in _ ⟨by omega, by omega⟩]; rfl
          clear HY HY2 HE HE2 HE4 HK HK2 HT HR h3 HBZ HN hn1
          go_wp2
          go_roundw
          case rel => exact ⟨k + 1, hk11, by go_num, HE5.out, HF.out⟩
          case measure => simp [intOf]; omega
end
end Go.Proofs.YtjilhncnbkaebaaGreatDoor
