/- All mourners of a yard by Hazard: a step of any. A template (fill.py). -/
import Derived.Test.YtjilhncnbkaebaaGreatDoorTA
import Derived.Test.YtjilhncnbkaebaaGreatDoorTd
namespace Go.Proofs.YtjilhncnbkaebaaGreatDoor
open Go.RowKit Go.Extern.Stop Go.Stop Go.Extern Go.Sort

theorem u64_modB (x : Int) (m : Nat) (hm : 0 < m) : ∃ n : Nat, n < m ∧ (IntKind.u64.wrap x).tmod (m : Int) = n := by
  have h0 : 0 ≤ IntKind.u64.wrap x := by rw [IntKind.wrap_u64]; omega
  rw [Int.tmod_eq_emod_of_nonneg h0]
  have h1 := Int.emod_nonneg (IntKind.u64.wrap x) (show (m : Int) ≠ 0 by omega)
  have h2 := Int.emod_lt_of_pos (IntKind.u64.wrap x) (show (0 : Int) < m by omega)
  exact ⟨((IntKind.u64.wrap x) % (m : Int)).toNat, by omega, by omega⟩
theorem flat_pick {α β : Type} (f : α → List β) : ∀ (l : List α) (i : Nat) (h : i < l.length), (l.flatMap f).Perm (f l[i] ++ (l.eraseIdx i).flatMap f)
  | x :: l, 0, _ => List.Perm.refl _
  | x :: l, i + 1, h => by
    have h' : i < l.length := by simpa using h
    have ih := flat_pick f l i h'
    show (f x ++ l.flatMap f).Perm (f l[i] ++ (f x ++ (l.eraseIdx i).flatMap f))
    refine (List.Perm.append_left (f x) ih).trans ?_
    rw [← List.append_assoc, ← List.append_assoc]
    exact List.Perm.append_right _ List.perm_append_comm
theorem set_erase {α : Type} (y : α) : ∀ (l : List α) (i : Nat), (l.set i y).eraseIdx i = l.eraseIdx i
  | [], _ => rfl
  | _ :: _, 0 => rfl
  | x :: l, i + 1 => by
    show x :: ((l.set i y).eraseIdx i) = x :: (l.eraseIdx i)
    rw [set_erase y l i]
def ownT (x : Th) : List (Int × Int) := owned (x.m, x.mo)
/-- What holds of all mourners, turn by turn. -/
structure GI (n thr most : Nat) (t : St) (ts : List Th) : Prop where
  len : ts.length = thr
  ri : RI n t
  own : Own t (rootL t ++ ts.flatMap ownT)
  loc : ∀ i, ∀ h : i < ts.length, Lc n thr most i t (ts[i].m, ts[i].mo)
def RowOk (g : Nat) (ts : List Th) : Prop := ∀ i, ∀ h : i < ts.length, ts[i].g = g ∧ ts[i].gc[i]? = some (.pointer (some ⟨ts[i].b, 0, none⟩))
section
variable {n thr most : Nat} {t : St} {ts : List Th}
theorem GI.new (hl : ts.length = thr) (hf : Fresh 2 thr most ts) (h1 : 1 ≤ thr ∧ thr ≤ 6) (h2 : 1 ≤ most ∧ most ≤ 64) (hn : n ≤ 1024) : GI n thr most (ydSt n) ts := by
  have es : ydSt n = (St.new n 85).tick.write (.board 24) (nw 1) := by
    unfold ydSt
    rw [step_store 24 (by show 24 < 85; omega)]
  have hb : (ydSt n).board 0 = zw := by rw [es]; rfl
  have hok : (ydSt n).Ok := St.step_ok (St.new_ok n 85 hn (by omega)) _ (era_can n)
  have hst : (ydSt n).steps = 1 := by rw [es]; rfl
  have hfl : ts.flatMap ownT = [] := List.flatMap_eq_nil_iff.2 fun x hx => by
    obtain ⟨i, hi, rfl⟩ := List.getElem_of_mem hx
    obtain ⟨e1, e2⟩ := hf i hi
    unfold ownT
    rw [e1, e2]
    rfl
  refine ⟨hl, ⟨by rw [hb]; exact ⟨⟨by decide, by decide⟩, by decide, by decide⟩, by rw [hb]; show (0 : Int) ≤ n; omega, by rw [hb]; decide, by rw [hb, hst]; decide, by rw [hst]; omega, by rw [es]; rfl, by rw [es]; rfl, hok⟩, ?_, fun i hi => ?_⟩
  · rw [hfl]
    have : rootL (ydSt n) = [] := by unfold rootL; rw [hb]; rfl
    rw [this]
    exact ⟨List.Pairwise.nil, fun p hp => by cases hp⟩
  · obtain ⟨e1, e2⟩ := hf i hi
    rw [e1, e2]
    exact ⟨⟨rfl, rfl, by omega, rfl, h1, rfl, h2, rfl, fun _ _ => rfl, Nat.zero_le _⟩, few_of (by show 0 ≤ _; omega) rfl, .inl ⟨rfl, by show 0 ≤ 7; omega, fun k => (by cases k), fun k => absurd k (by show ¬ 3 ≤ 0; omega)⟩⟩
/-- A turn. -/
theorem GI.turn (h : GI n thr most t ts) {i : Nat} (hi : i < ts.length) (hst : t.steps + 1 ≤ 90000) {R : Rt × Mo} (hR : begTo 11 (ts[i].m, ts[i].mo) = R) :
    BegOk 11 (ts[i].m, ts[i].mo) ∧ (R.1.st.busy = true → t.can R.1.st.acc = true ∧ HazOk R.1 (t.step R.1.st.acc).2) ∧
    ∀ K, GI n thr most (if R.1.st.busy then (t.step R.1.st.acc).1 else t) (ts.set i (ts[i].at_ (if R.1.st.busy then R.1.goOn (t.step R.1.st.acc).2 else R.1, R.2) K)) := by
  have hp := flat_pick ownT ts i hi
  have ho : Own t (rootL t ++ (owned (ts[i].m, ts[i].mo) ++ (ts.eraseIdx i).flatMap ownT)) := h.own.perm (List.Perm.append_left _ hp)
  have hrk : rk (ts[i].m, ts[i].mo) ≤ 11 := by unfold rk; (repeat' split) <;> omega
  obtain ⟨g1, g2, g3, _⟩ := beg_all 11 (h.loc i hi) h.ri ho hrk
  rw [hR] at g2 g3
  refine ⟨g1, fun hb => ?_, fun K => ?_⟩
  · obtain ⟨k1, k2, _⟩ := step_any g2 h.ri hst g3 hb
    exact ⟨k1, k2⟩
  · have key : ∀ (t' : St) (a : Rt × Mo), RI n t' → Lc n thr most i t' a → Own t' (rootL t' ++ (owned a ++ (ts.eraseIdx i).flatMap ownT)) → (t'.board 0 = t.board 0 ∨ (t.board 0).tag < (t'.board 0).tag) → t.steps ≤ t'.steps → GI n thr most t' (ts.set i (ts[i].at_ a K)) := by
      intro t' a r' l' o' hr hs
      have hi' : i < (ts.set i (ts[i].at_ a K)).length := by rw [List.length_set]; exact hi
      refine ⟨by rw [List.length_set]; exact h.len, r', ?_, fun j hj => ?_⟩
      · have hp' := flat_pick ownT (ts.set i (ts[i].at_ a K)) i hi'
        rw [set_erase, List.getElem_set_self] at hp'
        exact o'.perm (List.Perm.append_left _ hp'.symm)
      · rw [List.getElem_set]
        have hj' : j < ts.length := by rw [List.length_set] at hj; exact hj
        by_cases e : i = j
        · rw [if_pos e]; subst e; exact l'
        · rw [if_neg e]; exact (h.loc j hj').other hr hs
    cases hb : R.1.st.busy with
    | true =>
      obtain ⟨k1, _, k2, k3, k4, k5⟩ := step_any g2 h.ri hst g3 hb
      exact key _ _ k2 k3 k4 k5 (by show t.steps ≤ (t.step R.1.st.acc).1.steps; rw [(St.step_n t R.1.st.acc).2.2]; exact Nat.le_succ _)
    | false => exact key _ _ h.ri g2 g3 (.inl rfl) (Nat.le_refl _)
theorem RowOk.set {g i : Nat} (h : RowOk g ts) (hi : i < ts.length) (a : Rt × Mo) (K : Nat → Prop) : RowOk g (ts.set i (ts[i].at_ a K)) := fun j hj => by
  have hj' : j < ts.length := by rw [List.length_set] at hj; exact hj
  rw [List.getElem_set]
  by_cases e : i = j
  · rw [if_pos e]; subst e; exact h i hi
  · rw [if_neg e]; exact h j hj'
theorem GI.few (h : GI n thr most t ts) {i : Nat} (hi : i < ts.length) (h2 : 1 ≤ most) : ts[i].m.notes.length ≤ most + thr * 9 ∧ ts[i].m.notes.length ≤ 1000 := by
  have hl := h.loc i hi
  have hf := hl.few
  unfold Few at hf
  have hc := hl.com.th6
  have hm := hl.com.mo1
  have hf : (ts[i].m).notes.length ≤ if scans ts[i].m = true then max most (9 * thr + 1) else max (most - 1) (9 * thr) := hf
  split at hf <;> omega
end
/-- A step of any mourner. -/
theorem step_gi {W : World} {E : Flt → Addr} {B p bs bb n thr most g : Nat} {t : St} {ts : List Th} (h : Yd W E B p bs bb t ts) (hg : GI n thr most t ts) (hr : RowOk g ts) {i : Nat} (hi : i < ts.length) (hst : t.steps + 1 ≤ 90000) :
    Calls Tryz.prog 12 #[.pointer (some ⟨ts[i].b, 0, none⟩), .pointer (some ⟨p, 0, none⟩)] W fun e w' => e = .returned (.bool true) ∧ ∃ t' us, us.length = ts.length ∧ t'.steps ≤ t.steps + 1 ∧ Hid (Yd w' E B p bs bb t' us) ∧ Hid (GI n thr most t' us) ∧ Hid (RowOk g us) ∧ Hid (Below B W w') ∧
      ∃ m K, Hid (RiteIs w' B ts[i].r m K) ∧ m.notes.length ≤ most + thr * 9 ∧ m.notes.length ≤ 1000 ∧ w'.cell? ⟨ts[i].b, 0, none⟩ = some (.pointer (some ⟨ts[i].r, 0, none⟩)) ∧ ts[i].b < w'.heap.size := by
  obtain ⟨R, hR⟩ : ∃ R, begTo 11 (ts[i].m, ts[i].mo) = R := ⟨_, rfl⟩
  obtain ⟨g1, g2, g3⟩ := hg.turn hi hst hR
  refine (step_is h hi g1 hR (by omega) g2).mono fun e w' ⟨he, hb, K, hY⟩ => ⟨he, _, _, by rw [List.length_set], ?_, hY, Lib.hid (g3 K), Lib.hid (hr.set hi _ _), hb, ?_⟩
  · cases hbz : R.1.st.busy with
    | true => have := (St.step_n t R.1.st.acc).2.2; show (t.step R.1.st.acc).1.steps ≤ _; omega
    | false => exact Nat.le_succ _
  · have hG := g3 K
    have hi' : i < (ts.set i (ts[i].at_ (if R.1.st.busy = true then R.1.goOn (t.step R.1.st.acc).2 else R.1, R.2) K)).length := by rw [List.length_set]; exact hi
    have hf := hG.few hi' (hG.loc i hi').com.mo1.1
    have hm := hY.out.mo _ (List.getElem_mem hi')
    have hq := hY.out.rite _ (List.getElem_mem hi')
    have hbx : (ts.set i (ts[i].at_ (if R.1.st.busy = true then R.1.goOn (t.step R.1.st.acc).2 else R.1, R.2) K))[i].b = ts[i].b := by rw [List.getElem_set_self]; rfl
    have hrx : (ts.set i (ts[i].at_ (if R.1.st.busy = true then R.1.goOn (t.step R.1.st.acc).2 else R.1, R.2) K))[i].r = ts[i].r := by rw [List.getElem_set_self]; rfl
    rw [hbx, hrx] at hm
    rw [hrx] at hq
    exact ⟨_, _, Lib.hid hq, hf.1, hf.2, hm.cell 0, hm.lt⟩
end Go.Proofs.YtjilhncnbkaebaaGreatDoor
